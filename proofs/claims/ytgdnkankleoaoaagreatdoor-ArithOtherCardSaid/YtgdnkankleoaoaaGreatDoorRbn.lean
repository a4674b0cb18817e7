/- The reference of layer 6: Binary, Merge, Neg at any two values. -/
import Derived.Test.YtgdnkankleoaoaaGreatDoorB2
import Derived.Test.YtgdnkankleoaoaaGreatDoorB3
import Derived.Test.YtgdnkankleoaoaaGreatDoorA40
import Derived.Test.YtgdnkankleoaoaaGreatDoorA15
import Derived.Test.YtgdnkankleoaoaaGreatDoorA16
import Derived.Test.YtgdnkankleoaoaaGreatDoorA32
set_option linter.unusedVariables false
set_option linter.unusedSimpArgs false
namespace Go.Proofs.YtgdnkankleoaoaaGreatDoor
open Go.RowKit Go.Sort Go.Lib
theorem rsubv_any (v u : V) (cs ds : List Value) (w : World) (S : Nat → Prop) (hS : ∀ b, S b → b < w.heap.size) (h : Lies w S v cs) (h' : Lies w S u ds) (hv : valid v = true) (hu : valid u = true) : Calls Tryz.prog 117 #[.agg cs.toArray, .agg ds.toArray] w (RetT S (subR v u).1 (subR v u).2 w) := by
  obtain ⟨k, n, s, ks, es⟩ := v
  obtain ⟨k2, n2, s2, ks2, es2⟩ := u
  obtain ⟨A, a, B, b, xs, rfl, _, _, _, _, hA, hB, hL⟩ := lies_open h
  obtain ⟨A2, a2, B2, b2', ys, rfl, _, _, _, _, hA2, hB2, hL2⟩ := lies_open h'
  have hd : subR (V.mk k n s ks es) (V.mk k2 n2 s2 ks2 es2) = if k = 3 ∧ k2 = 3 then (numV (wrap64 (n - n2)), 0) else if k = 5 ∧ k2 = 5 then lim (arrV (minus es es2)) else (vnull, 12) := rfl
  rw [hd]
  by_cases c3 : k = 3 ∧ k2 = 3
  · rw [if_pos c3]
    obtain ⟨rfl, rfl⟩ := c3
    exact rsub_num n n2 s s2 A B A2 B2 _ a _ b _ a2 _ b2' w S hS
  rw [if_neg c3]
  by_cases c5 : k = 5 ∧ k2 = 5
  · rw [if_pos c5]
    obtain ⟨rfl, rfl⟩ := c5
    have hl : lim (arrV (minus es es2)) = (arrV (minus es es2), 0) := by
      have h9 := sub_arrs hv hu
      rw [hd, if_neg (by decide), if_pos (by decide)] at h9
      exact lim_ok (by rw [h9])
    have h1 := (valid_keys hv).2.2.2
    have h2 := (valid_keys hu).2.2.2
    rw [hl, minus_kept]
    exact rsub_arr es es2 xs ys n n2 s s2 A B A2 B2 _ a b _ a2 b2' w S hS hB hL hB2 hL2 (by omega) (by omega)
  rw [if_neg c5]
  exact rsub_type k k2 (fun c hc => by rcases hc with rfl | rfl <;> assumption) n n2 s s2 A B A2 B2 _ a _ b _ a2 _ b2' w S
set_option maxHeartbeats 4000000 in
set_option maxRecDepth 100000 in
theorem rbin_inv1 (op : ByteArray) (v u : V) (cs ds : List Value) (w : World) (S : Nat → Prop) (hS : ∀ b, S b → b < w.heap.size) (h : Lies w S v cs) (h' : Lies w S u ds) (hv : valid v = false) :
    Calls Tryz.prog 15 #[.string op, .agg cs.toArray, .agg ds.toArray] w (RetT S vnull 1 w) := by
  have HV : Hid (∀ W, Below w.heap.size w W → Calls Tryz.prog 112 #[.agg cs.toArray] W fun e w' => e = .returned (.bool false) ∧ Below W.heap.size W w') := Lib.hid fun W hW => by
    have h9 := rvalid_any v cs W (below_lies hW (h.move fun b hb => ⟨hS b hb, rfl⟩))
    rw [valid_same, hv] at h9
    exact h9
  obtain ⟨k, n, s, ks, es⟩ := v
  obtain ⟨A, a, B, b, xs, rfl, _⟩ := lies_open h
  obtain ⟨k2, n2, s2, ks2, es2⟩ := u
  obtain ⟨A2, a2, B2, b2, xs2, rfl, _⟩ := lies_open h'
  clear h h' hv
  generalize ks.length = l1 at *
  generalize es.length = l2 at *
  generalize ks2.length = l3 at *
  generalize es2.length = l4 at *
  show Calls _ _ #[_, .agg #[.int .i64 k, .int .i64 n, .string s, .slice A l1 a, .slice B l2 b], .agg #[.int .i64 k2, .int .i64 n2, .string s2, .slice A2 l3 a2, .slice B2 l4 b2]] w _
  have H0 := Lib.hid (B3.start w #[.int .i64 k, .int .i64 n, .string s, .slice A l1 a, .slice B l2 b] #[.int .i64 k2, .int .i64 n2, .string s2, .slice A2 l3 a2, .slice B2 l4 b2])
  go_enter Tryz.func15, Tryz.ntmps15
  go_wp2_with fail
  refine (HV.out _ H0.out.below).mono ?_
  rintro e1 w1 ⟨rfl, hb1⟩
  have H1 := Lib.hid (H0.out.next hb1)
  clear hb1
  obtain ⟨t0, t1, t2, t3, t4⟩ := box5 H1.out.r
  have z0 := H1.out.r.free 0
  have z1 := H1.out.r.free 1
  have z2 := H1.out.r.free 2
  have z3 := H1.out.r.free 3
  have z4 := H1.out.r.free 4
  go_wp2_with fail
  refine bodyPost_ret (v := .tuple #[.agg #[.int .i64 0, .int .i64 0, .string ⟨#[]⟩, .slice none 0 0, .slice none 0 0], .int .i64 1]) (by simp [results, Tryz.results15, go_sem, t0, t1, t2, t3, t4]) rfl ?_
  exact retT_put H1.out.below (by omega) H1.out.r.lt (lies_null _ _)
set_option maxHeartbeats 4000000 in
set_option maxRecDepth 100000 in
theorem rbin_inv2 (op : ByteArray) (v u : V) (cs ds : List Value) (w : World) (S : Nat → Prop) (hS : ∀ b, S b → b < w.heap.size) (h : Lies w S v cs) (h' : Lies w S u ds) (hv : valid v = true) (hu : valid u = false) :
    Calls Tryz.prog 15 #[.string op, .agg cs.toArray, .agg ds.toArray] w (RetT S vnull 1 w) := by
  have HV : Hid (∀ W, Below w.heap.size w W → Calls Tryz.prog 112 #[.agg cs.toArray] W fun e w' => e = .returned (.bool true) ∧ Below W.heap.size W w') := Lib.hid fun W hW => by
    have h9 := rvalid_any v cs W (below_lies hW (h.move fun b hb => ⟨hS b hb, rfl⟩))
    rw [valid_same, hv] at h9
    exact h9
  have HU : Hid (∀ W, Below w.heap.size w W → Calls Tryz.prog 112 #[.agg ds.toArray] W fun e w' => e = .returned (.bool false) ∧ Below W.heap.size W w') := Lib.hid fun W hW => by
    have h9 := rvalid_any u ds W (below_lies hW (h'.move fun b hb => ⟨hS b hb, rfl⟩))
    rw [valid_same, hu] at h9
    exact h9
  obtain ⟨k, n, s, ks, es⟩ := v
  obtain ⟨A, a, B, b, xs, rfl, _⟩ := lies_open h
  obtain ⟨k2, n2, s2, ks2, es2⟩ := u
  obtain ⟨A2, a2, B2, b2, xs2, rfl, _⟩ := lies_open h'
  clear h h' hv hu
  generalize ks.length = l1 at *
  generalize es.length = l2 at *
  generalize ks2.length = l3 at *
  generalize es2.length = l4 at *
  show Calls _ _ #[_, .agg #[.int .i64 k, .int .i64 n, .string s, .slice A l1 a, .slice B l2 b], .agg #[.int .i64 k2, .int .i64 n2, .string s2, .slice A2 l3 a2, .slice B2 l4 b2]] w _
  have H0 := Lib.hid (B3.start w #[.int .i64 k, .int .i64 n, .string s, .slice A l1 a, .slice B l2 b] #[.int .i64 k2, .int .i64 n2, .string s2, .slice A2 l3 a2, .slice B2 l4 b2])
  go_enter Tryz.func15, Tryz.ntmps15
  go_wp2_with fail
  refine (HV.out _ H0.out.below).mono ?_
  rintro e1 w1 ⟨rfl, hb1⟩
  have H1 := Lib.hid (H0.out.next hb1)
  clear hb1
  obtain ⟨y0, y1, y2, y3, y4⟩ := box5 H1.out.y
  go_wp2_with fail
  refine (HU.out _ H1.out.below).mono ?_
  rintro e2 w2 ⟨rfl, hb2⟩
  have H2 := Lib.hid (H1.out.next hb2)
  clear hb2
  clear y0 y1 y2 y3 y4
  obtain ⟨t0, t1, t2, t3, t4⟩ := box5 H2.out.r
  have z0 := H2.out.r.free 0
  have z1 := H2.out.r.free 1
  have z2 := H2.out.r.free 2
  have z3 := H2.out.r.free 3
  have z4 := H2.out.r.free 4
  go_wp2_with fail
  refine bodyPost_ret (v := .tuple #[.agg #[.int .i64 0, .int .i64 0, .string ⟨#[]⟩, .slice none 0 0, .slice none 0 0], .int .i64 1]) (by simp [results, Tryz.results15, go_sem, t0, t1, t2, t3, t4]) rfl ?_
  exact retT_put H2.out.below (by omega) H2.out.r.lt (lies_null _ _)
set_option maxHeartbeats 4000000 in
set_option maxRecDepth 100000 in
theorem rbin_no (op : ByteArray) (v u : V) (cs ds : List Value) (w : World) (S : Nat → Prop) (hS : ∀ b, S b → b < w.heap.size) (h : Lies w S v cs) (h' : Lies w S u ds) (hno : NoOp op) (hv : valid v = true) (hu : valid u = true) :
    Calls Tryz.prog 15 #[.string op, .agg cs.toArray, .agg ds.toArray] w (RetT S vnull 3 w) := by
  have HV : Hid (∀ W, Below w.heap.size w W → Calls Tryz.prog 112 #[.agg cs.toArray] W fun e w' => e = .returned (.bool true) ∧ Below W.heap.size W w') := Lib.hid fun W hW => by
    have h9 := rvalid_any v cs W (below_lies hW (h.move fun b hb => ⟨hS b hb, rfl⟩))
    rw [valid_same, hv] at h9
    exact h9
  have HU : Hid (∀ W, Below w.heap.size w W → Calls Tryz.prog 112 #[.agg ds.toArray] W fun e w' => e = .returned (.bool true) ∧ Below W.heap.size W w') := Lib.hid fun W hW => by
    have h9 := rvalid_any u ds W (below_lies hW (h'.move fun b hb => ⟨hS b hb, rfl⟩))
    rw [valid_same, hu] at h9
    exact h9
  have HOP := Lib.hid (fun W => rop_no op hno W)
  obtain ⟨k, n, s, ks, es⟩ := v
  obtain ⟨A, a, B, b, xs, rfl, _⟩ := lies_open h
  obtain ⟨k2, n2, s2, ks2, es2⟩ := u
  obtain ⟨A2, a2, B2, b2, xs2, rfl, _⟩ := lies_open h'
  clear h h' hv hu hno
  generalize ks.length = l1 at *
  generalize es.length = l2 at *
  generalize ks2.length = l3 at *
  generalize es2.length = l4 at *
  show Calls _ _ #[_, .agg #[.int .i64 k, .int .i64 n, .string s, .slice A l1 a, .slice B l2 b], .agg #[.int .i64 k2, .int .i64 n2, .string s2, .slice A2 l3 a2, .slice B2 l4 b2]] w _
  have H0 := Lib.hid (B3.start w #[.int .i64 k, .int .i64 n, .string s, .slice A l1 a, .slice B l2 b] #[.int .i64 k2, .int .i64 n2, .string s2, .slice A2 l3 a2, .slice B2 l4 b2])
  go_enter Tryz.func15, Tryz.ntmps15
  go_wp2_with fail
  refine (HV.out _ H0.out.below).mono ?_
  rintro e1 w1 ⟨rfl, hb1⟩
  have H1 := Lib.hid (H0.out.next hb1)
  clear hb1
  obtain ⟨y0, y1, y2, y3, y4⟩ := box5 H1.out.y
  go_wp2_with fail
  refine (HU.out _ H1.out.below).mono ?_
  rintro e2 w2 ⟨rfl, hb2⟩
  have H2 := Lib.hid (H1.out.next hb2)
  clear hb2
  clear y0 y1 y2 y3 y4
  go_wp2_with fail
  refine (HOP.out _).mono ?_
  rintro e3 w3 ⟨rfl, rfl⟩
  obtain ⟨t0, t1, t2, t3, t4⟩ := box5 H2.out.r
  have z0 := H2.out.r.free 0
  have z1 := H2.out.r.free 1
  have z2 := H2.out.r.free 2
  have z3 := H2.out.r.free 3
  have z4 := H2.out.r.free 4
  go_wp2_with fail
  refine bodyPost_ret (v := .tuple #[.agg #[.int .i64 0, .int .i64 0, .string ⟨#[]⟩, .slice none 0 0, .slice none 0 0], .int .i64 3]) (by simp [results, Tryz.results15, go_sem, t0, t1, t2, t3, t4]) rfl ?_
  exact retT_put H2.out.below (by omega) H2.out.r.lt (lies_null _ _)
set_option maxHeartbeats 4000000 in
set_option maxRecDepth 100000 in
theorem rbin_0 (v u : V) (cs ds : List Value) (w : World) (S : Nat → Prop) (hS : ∀ b, S b → b < w.heap.size) (h : Lies w S v cs) (h' : Lies w S u ds) (hv : valid v = true) (hu : valid u = true) (r : V) (er : Int) (hc : ∀ W, Below w.heap.size w W → Calls Tryz.prog 116 #[.agg cs.toArray, .agg ds.toArray] W (RetT S r er W)) :
    Calls Tryz.prog 15 #[.string ⟨#[43]⟩, .agg cs.toArray, .agg ds.toArray] w (RetT S r er w) := by
  have HV : Hid (∀ W, Below w.heap.size w W → Calls Tryz.prog 112 #[.agg cs.toArray] W fun e w' => e = .returned (.bool true) ∧ Below W.heap.size W w') := Lib.hid fun W hW => by
    have h9 := rvalid_any v cs W (below_lies hW (h.move fun b hb => ⟨hS b hb, rfl⟩))
    rw [valid_same, hv] at h9
    exact h9
  have HU : Hid (∀ W, Below w.heap.size w W → Calls Tryz.prog 112 #[.agg ds.toArray] W fun e w' => e = .returned (.bool true) ∧ Below W.heap.size W w') := Lib.hid fun W hW => by
    have h9 := rvalid_any u ds W (below_lies hW (h'.move fun b hb => ⟨hS b hb, rfl⟩))
    rw [valid_same, hu] at h9
    exact h9
  have HOP := Lib.hid (fun W => rop_0 W)
  have HQ : Hid (∀ W, Below w.heap.size w W → Calls Tryz.prog 114 #[.agg cs.toArray, .agg ds.toArray] W fun e w' => e = .returned (.int .i64 (vcmp v u)) ∧ Below W.heap.size W w') := Lib.hid fun W hW => rorder_any v u cs ds W (below_lies hW (h.move fun b hb => ⟨hS b hb, rfl⟩)) (below_lies hW (h'.move fun b hb => ⟨hS b hb, rfl⟩))
  have HC := Lib.hid (fun W hW => retT_open (hc W hW))
  generalize vcmp v u = q at HQ
  obtain ⟨k, n, s, ks, es⟩ := v
  obtain ⟨A, a, B, b, xs, rfl, _⟩ := lies_open h
  obtain ⟨k2, n2, s2, ks2, es2⟩ := u
  obtain ⟨A2, a2, B2, b2, xs2, rfl, _⟩ := lies_open h'
  clear h h' hv hu hc
  generalize ks.length = l1 at *
  generalize es.length = l2 at *
  generalize ks2.length = l3 at *
  generalize es2.length = l4 at *
  show Calls _ _ #[_, .agg #[.int .i64 k, .int .i64 n, .string s, .slice A l1 a, .slice B l2 b], .agg #[.int .i64 k2, .int .i64 n2, .string s2, .slice A2 l3 a2, .slice B2 l4 b2]] w _
  have H0 := Lib.hid (B3.start w #[.int .i64 k, .int .i64 n, .string s, .slice A l1 a, .slice B l2 b] #[.int .i64 k2, .int .i64 n2, .string s2, .slice A2 l3 a2, .slice B2 l4 b2])
  go_enter Tryz.func15, Tryz.ntmps15
  go_wp2_with fail
  refine (HV.out _ H0.out.below).mono ?_
  rintro e1 w1 ⟨rfl, hb1⟩
  have H1 := Lib.hid (H0.out.next hb1)
  clear hb1
  obtain ⟨y0, y1, y2, y3, y4⟩ := box5 H1.out.y
  go_wp2_with fail
  refine (HU.out _ H1.out.below).mono ?_
  rintro e2 w2 ⟨rfl, hb2⟩
  have H2 := Lib.hid (H1.out.next hb2)
  clear hb2
  clear y0 y1 y2 y3 y4
  go_wp2_with fail
  refine (HOP.out _).mono ?_
  rintro e3 w3 ⟨rfl, rfl⟩
  obtain ⟨x0, x1, x2, x3, x4⟩ := box5 H2.out.x
  obtain ⟨y0, y1, y2, y3, y4⟩ := box5 H2.out.y
  go_wp2_with fail
  refine (HQ.out _ H2.out.below).mono ?_
  rintro e4 w4 ⟨rfl, hb4⟩
  have H4 := Lib.hid (H2.out.next hb4)
  clear hb4
  clear x0 x1 x2 x3 x4 y0 y1 y2 y3 y4
  obtain ⟨x0, x1, x2, x3, x4⟩ := box5 H4.out.x
  obtain ⟨y0, y1, y2, y3, y4⟩ := box5 H4.out.y
  go_wp2_with fail
  refine (HC.out _ H4.out.below).mono ?_
  rintro e5 w5 ⟨rk, rn, rs, rks, res, RA, ra, RC, rc, hrv, rfl, hb5, hl5⟩
  have hsw5 := H4.out.r.lt
  have hsb5 := hb5.size
  have H5 := Lib.hid (H4.out.next hb5)
  have HL := Lib.hid hl5
  clear hb5 hl5 hrv
  clear x0 x1 x2 x3 x4 y0 y1 y2 y3 y4
  obtain ⟨t0, t1, t2, t3, t4⟩ := box5 H5.out.r
  have z0 := H5.out.r.free 0
  have z1 := H5.out.r.free 1
  have z2 := H5.out.r.free 2
  have z3 := H5.out.r.free 3
  have z4 := H5.out.r.free 4
  go_wp2_with fail
  refine bodyPost_ret (v := .tuple #[.agg #[.int .i64 rk, .int .i64 rn, .string rs, .slice RA rks.length ra, .slice RC res.length rc], .int .i64 er]) (by simp [results, Tryz.results15, go_sem, t0, t1, t2, t3, t4]) rfl ?_
  refine retT_put H5.out.below (by omega) H5.out.r.lt (HL.out.move fun b hb => ⟨?_, rfl⟩)
  rcases hb with h9 | h9
  · have := hS b h9
    exact ⟨.inl h9, by omega⟩
  · exact ⟨.inr ⟨by omega, h9.2⟩, by omega⟩
set_option maxHeartbeats 4000000 in
set_option maxRecDepth 100000 in
theorem rbin_1 (v u : V) (cs ds : List Value) (w : World) (S : Nat → Prop) (hS : ∀ b, S b → b < w.heap.size) (h : Lies w S v cs) (h' : Lies w S u ds) (hv : valid v = true) (hu : valid u = true) (r : V) (er : Int) (hc : ∀ W, Below w.heap.size w W → Calls Tryz.prog 117 #[.agg cs.toArray, .agg ds.toArray] W (RetT S r er W)) :
    Calls Tryz.prog 15 #[.string ⟨#[45]⟩, .agg cs.toArray, .agg ds.toArray] w (RetT S r er w) := by
  have HV : Hid (∀ W, Below w.heap.size w W → Calls Tryz.prog 112 #[.agg cs.toArray] W fun e w' => e = .returned (.bool true) ∧ Below W.heap.size W w') := Lib.hid fun W hW => by
    have h9 := rvalid_any v cs W (below_lies hW (h.move fun b hb => ⟨hS b hb, rfl⟩))
    rw [valid_same, hv] at h9
    exact h9
  have HU : Hid (∀ W, Below w.heap.size w W → Calls Tryz.prog 112 #[.agg ds.toArray] W fun e w' => e = .returned (.bool true) ∧ Below W.heap.size W w') := Lib.hid fun W hW => by
    have h9 := rvalid_any u ds W (below_lies hW (h'.move fun b hb => ⟨hS b hb, rfl⟩))
    rw [valid_same, hu] at h9
    exact h9
  have HOP := Lib.hid (fun W => rop_1 W)
  have HQ : Hid (∀ W, Below w.heap.size w W → Calls Tryz.prog 114 #[.agg cs.toArray, .agg ds.toArray] W fun e w' => e = .returned (.int .i64 (vcmp v u)) ∧ Below W.heap.size W w') := Lib.hid fun W hW => rorder_any v u cs ds W (below_lies hW (h.move fun b hb => ⟨hS b hb, rfl⟩)) (below_lies hW (h'.move fun b hb => ⟨hS b hb, rfl⟩))
  have HC := Lib.hid (fun W hW => retT_open (hc W hW))
  generalize vcmp v u = q at HQ
  obtain ⟨k, n, s, ks, es⟩ := v
  obtain ⟨A, a, B, b, xs, rfl, _⟩ := lies_open h
  obtain ⟨k2, n2, s2, ks2, es2⟩ := u
  obtain ⟨A2, a2, B2, b2, xs2, rfl, _⟩ := lies_open h'
  clear h h' hv hu hc
  generalize ks.length = l1 at *
  generalize es.length = l2 at *
  generalize ks2.length = l3 at *
  generalize es2.length = l4 at *
  show Calls _ _ #[_, .agg #[.int .i64 k, .int .i64 n, .string s, .slice A l1 a, .slice B l2 b], .agg #[.int .i64 k2, .int .i64 n2, .string s2, .slice A2 l3 a2, .slice B2 l4 b2]] w _
  have H0 := Lib.hid (B3.start w #[.int .i64 k, .int .i64 n, .string s, .slice A l1 a, .slice B l2 b] #[.int .i64 k2, .int .i64 n2, .string s2, .slice A2 l3 a2, .slice B2 l4 b2])
  go_enter Tryz.func15, Tryz.ntmps15
  go_wp2_with fail
  refine (HV.out _ H0.out.below).mono ?_
  rintro e1 w1 ⟨rfl, hb1⟩
  have H1 := Lib.hid (H0.out.next hb1)
  clear hb1
  obtain ⟨y0, y1, y2, y3, y4⟩ := box5 H1.out.y
  go_wp2_with fail
  refine (HU.out _ H1.out.below).mono ?_
  rintro e2 w2 ⟨rfl, hb2⟩
  have H2 := Lib.hid (H1.out.next hb2)
  clear hb2
  clear y0 y1 y2 y3 y4
  go_wp2_with fail
  refine (HOP.out _).mono ?_
  rintro e3 w3 ⟨rfl, rfl⟩
  obtain ⟨x0, x1, x2, x3, x4⟩ := box5 H2.out.x
  obtain ⟨y0, y1, y2, y3, y4⟩ := box5 H2.out.y
  go_wp2_with fail
  refine (HQ.out _ H2.out.below).mono ?_
  rintro e4 w4 ⟨rfl, hb4⟩
  have H4 := Lib.hid (H2.out.next hb4)
  clear hb4
  clear x0 x1 x2 x3 x4 y0 y1 y2 y3 y4
  obtain ⟨x0, x1, x2, x3, x4⟩ := box5 H4.out.x
  obtain ⟨y0, y1, y2, y3, y4⟩ := box5 H4.out.y
  go_wp2_with fail
  refine (HC.out _ H4.out.below).mono ?_
  rintro e5 w5 ⟨rk, rn, rs, rks, res, RA, ra, RC, rc, hrv, rfl, hb5, hl5⟩
  have hsw5 := H4.out.r.lt
  have hsb5 := hb5.size
  have H5 := Lib.hid (H4.out.next hb5)
  have HL := Lib.hid hl5
  clear hb5 hl5 hrv
  clear x0 x1 x2 x3 x4 y0 y1 y2 y3 y4
  obtain ⟨t0, t1, t2, t3, t4⟩ := box5 H5.out.r
  have z0 := H5.out.r.free 0
  have z1 := H5.out.r.free 1
  have z2 := H5.out.r.free 2
  have z3 := H5.out.r.free 3
  have z4 := H5.out.r.free 4
  go_wp2_with fail
  refine bodyPost_ret (v := .tuple #[.agg #[.int .i64 rk, .int .i64 rn, .string rs, .slice RA rks.length ra, .slice RC res.length rc], .int .i64 er]) (by simp [results, Tryz.results15, go_sem, t0, t1, t2, t3, t4]) rfl ?_
  refine retT_put H5.out.below (by omega) H5.out.r.lt (HL.out.move fun b hb => ⟨?_, rfl⟩)
  rcases hb with h9 | h9
  · have := hS b h9
    exact ⟨.inl h9, by omega⟩
  · exact ⟨.inr ⟨by omega, h9.2⟩, by omega⟩
set_option maxHeartbeats 4000000 in
set_option maxRecDepth 100000 in
theorem rbin_2 (v u : V) (cs ds : List Value) (w : World) (S : Nat → Prop) (hS : ∀ b, S b → b < w.heap.size) (h : Lies w S v cs) (h' : Lies w S u ds) (hv : valid v = true) (hu : valid u = true) (r : V) (er : Int) (hc : ∀ W, Below w.heap.size w W → Calls Tryz.prog 118 #[.agg cs.toArray, .agg ds.toArray] W (RetT S r er W)) :
    Calls Tryz.prog 15 #[.string ⟨#[42]⟩, .agg cs.toArray, .agg ds.toArray] w (RetT S r er w) := by
  have HV : Hid (∀ W, Below w.heap.size w W → Calls Tryz.prog 112 #[.agg cs.toArray] W fun e w' => e = .returned (.bool true) ∧ Below W.heap.size W w') := Lib.hid fun W hW => by
    have h9 := rvalid_any v cs W (below_lies hW (h.move fun b hb => ⟨hS b hb, rfl⟩))
    rw [valid_same, hv] at h9
    exact h9
  have HU : Hid (∀ W, Below w.heap.size w W → Calls Tryz.prog 112 #[.agg ds.toArray] W fun e w' => e = .returned (.bool true) ∧ Below W.heap.size W w') := Lib.hid fun W hW => by
    have h9 := rvalid_any u ds W (below_lies hW (h'.move fun b hb => ⟨hS b hb, rfl⟩))
    rw [valid_same, hu] at h9
    exact h9
  have HOP := Lib.hid (fun W => rop_2 W)
  have HQ : Hid (∀ W, Below w.heap.size w W → Calls Tryz.prog 114 #[.agg cs.toArray, .agg ds.toArray] W fun e w' => e = .returned (.int .i64 (vcmp v u)) ∧ Below W.heap.size W w') := Lib.hid fun W hW => rorder_any v u cs ds W (below_lies hW (h.move fun b hb => ⟨hS b hb, rfl⟩)) (below_lies hW (h'.move fun b hb => ⟨hS b hb, rfl⟩))
  have HC := Lib.hid (fun W hW => retT_open (hc W hW))
  generalize vcmp v u = q at HQ
  obtain ⟨k, n, s, ks, es⟩ := v
  obtain ⟨A, a, B, b, xs, rfl, _⟩ := lies_open h
  obtain ⟨k2, n2, s2, ks2, es2⟩ := u
  obtain ⟨A2, a2, B2, b2, xs2, rfl, _⟩ := lies_open h'
  clear h h' hv hu hc
  generalize ks.length = l1 at *
  generalize es.length = l2 at *
  generalize ks2.length = l3 at *
  generalize es2.length = l4 at *
  show Calls _ _ #[_, .agg #[.int .i64 k, .int .i64 n, .string s, .slice A l1 a, .slice B l2 b], .agg #[.int .i64 k2, .int .i64 n2, .string s2, .slice A2 l3 a2, .slice B2 l4 b2]] w _
  have H0 := Lib.hid (B3.start w #[.int .i64 k, .int .i64 n, .string s, .slice A l1 a, .slice B l2 b] #[.int .i64 k2, .int .i64 n2, .string s2, .slice A2 l3 a2, .slice B2 l4 b2])
  go_enter Tryz.func15, Tryz.ntmps15
  go_wp2_with fail
  refine (HV.out _ H0.out.below).mono ?_
  rintro e1 w1 ⟨rfl, hb1⟩
  have H1 := Lib.hid (H0.out.next hb1)
  clear hb1
  obtain ⟨y0, y1, y2, y3, y4⟩ := box5 H1.out.y
  go_wp2_with fail
  refine (HU.out _ H1.out.below).mono ?_
  rintro e2 w2 ⟨rfl, hb2⟩
  have H2 := Lib.hid (H1.out.next hb2)
  clear hb2
  clear y0 y1 y2 y3 y4
  go_wp2_with fail
  refine (HOP.out _).mono ?_
  rintro e3 w3 ⟨rfl, rfl⟩
  obtain ⟨x0, x1, x2, x3, x4⟩ := box5 H2.out.x
  obtain ⟨y0, y1, y2, y3, y4⟩ := box5 H2.out.y
  go_wp2_with fail
  refine (HQ.out _ H2.out.below).mono ?_
  rintro e4 w4 ⟨rfl, hb4⟩
  have H4 := Lib.hid (H2.out.next hb4)
  clear hb4
  clear x0 x1 x2 x3 x4 y0 y1 y2 y3 y4
  obtain ⟨x0, x1, x2, x3, x4⟩ := box5 H4.out.x
  obtain ⟨y0, y1, y2, y3, y4⟩ := box5 H4.out.y
  go_wp2_with fail
  refine (HC.out _ H4.out.below).mono ?_
  rintro e5 w5 ⟨rk, rn, rs, rks, res, RA, ra, RC, rc, hrv, rfl, hb5, hl5⟩
  have hsw5 := H4.out.r.lt
  have hsb5 := hb5.size
  have H5 := Lib.hid (H4.out.next hb5)
  have HL := Lib.hid hl5
  clear hb5 hl5 hrv
  clear x0 x1 x2 x3 x4 y0 y1 y2 y3 y4
  obtain ⟨t0, t1, t2, t3, t4⟩ := box5 H5.out.r
  have z0 := H5.out.r.free 0
  have z1 := H5.out.r.free 1
  have z2 := H5.out.r.free 2
  have z3 := H5.out.r.free 3
  have z4 := H5.out.r.free 4
  go_wp2_with fail
  refine bodyPost_ret (v := .tuple #[.agg #[.int .i64 rk, .int .i64 rn, .string rs, .slice RA rks.length ra, .slice RC res.length rc], .int .i64 er]) (by simp [results, Tryz.results15, go_sem, t0, t1, t2, t3, t4]) rfl ?_
  refine retT_put H5.out.below (by omega) H5.out.r.lt (HL.out.move fun b hb => ⟨?_, rfl⟩)
  rcases hb with h9 | h9
  · have := hS b h9
    exact ⟨.inl h9, by omega⟩
  · exact ⟨.inr ⟨by omega, h9.2⟩, by omega⟩
set_option maxHeartbeats 4000000 in
set_option maxRecDepth 100000 in
theorem rbin_3 (v u : V) (cs ds : List Value) (w : World) (S : Nat → Prop) (hS : ∀ b, S b → b < w.heap.size) (h : Lies w S v cs) (h' : Lies w S u ds) (hv : valid v = true) (hu : valid u = true) (r : V) (er : Int) (hc : ∀ W, Below w.heap.size w W → Calls Tryz.prog 119 #[.string ⟨#[47]⟩, .agg cs.toArray, .agg ds.toArray] W (RetT S r er W)) :
    Calls Tryz.prog 15 #[.string ⟨#[47]⟩, .agg cs.toArray, .agg ds.toArray] w (RetT S r er w) := by
  have HV : Hid (∀ W, Below w.heap.size w W → Calls Tryz.prog 112 #[.agg cs.toArray] W fun e w' => e = .returned (.bool true) ∧ Below W.heap.size W w') := Lib.hid fun W hW => by
    have h9 := rvalid_any v cs W (below_lies hW (h.move fun b hb => ⟨hS b hb, rfl⟩))
    rw [valid_same, hv] at h9
    exact h9
  have HU : Hid (∀ W, Below w.heap.size w W → Calls Tryz.prog 112 #[.agg ds.toArray] W fun e w' => e = .returned (.bool true) ∧ Below W.heap.size W w') := Lib.hid fun W hW => by
    have h9 := rvalid_any u ds W (below_lies hW (h'.move fun b hb => ⟨hS b hb, rfl⟩))
    rw [valid_same, hu] at h9
    exact h9
  have HOP := Lib.hid (fun W => rop_3 W)
  have HQ : Hid (∀ W, Below w.heap.size w W → Calls Tryz.prog 114 #[.agg cs.toArray, .agg ds.toArray] W fun e w' => e = .returned (.int .i64 (vcmp v u)) ∧ Below W.heap.size W w') := Lib.hid fun W hW => rorder_any v u cs ds W (below_lies hW (h.move fun b hb => ⟨hS b hb, rfl⟩)) (below_lies hW (h'.move fun b hb => ⟨hS b hb, rfl⟩))
  have HC := Lib.hid (fun W hW => retT_open (hc W hW))
  generalize vcmp v u = q at HQ
  obtain ⟨k, n, s, ks, es⟩ := v
  obtain ⟨A, a, B, b, xs, rfl, _⟩ := lies_open h
  obtain ⟨k2, n2, s2, ks2, es2⟩ := u
  obtain ⟨A2, a2, B2, b2, xs2, rfl, _⟩ := lies_open h'
  clear h h' hv hu hc
  generalize ks.length = l1 at *
  generalize es.length = l2 at *
  generalize ks2.length = l3 at *
  generalize es2.length = l4 at *
  show Calls _ _ #[_, .agg #[.int .i64 k, .int .i64 n, .string s, .slice A l1 a, .slice B l2 b], .agg #[.int .i64 k2, .int .i64 n2, .string s2, .slice A2 l3 a2, .slice B2 l4 b2]] w _
  have H0 := Lib.hid (B3.start w #[.int .i64 k, .int .i64 n, .string s, .slice A l1 a, .slice B l2 b] #[.int .i64 k2, .int .i64 n2, .string s2, .slice A2 l3 a2, .slice B2 l4 b2])
  go_enter Tryz.func15, Tryz.ntmps15
  go_wp2_with fail
  refine (HV.out _ H0.out.below).mono ?_
  rintro e1 w1 ⟨rfl, hb1⟩
  have H1 := Lib.hid (H0.out.next hb1)
  clear hb1
  obtain ⟨y0, y1, y2, y3, y4⟩ := box5 H1.out.y
  go_wp2_with fail
  refine (HU.out _ H1.out.below).mono ?_
  rintro e2 w2 ⟨rfl, hb2⟩
  have H2 := Lib.hid (H1.out.next hb2)
  clear hb2
  clear y0 y1 y2 y3 y4
  go_wp2_with fail
  refine (HOP.out _).mono ?_
  rintro e3 w3 ⟨rfl, rfl⟩
  obtain ⟨x0, x1, x2, x3, x4⟩ := box5 H2.out.x
  obtain ⟨y0, y1, y2, y3, y4⟩ := box5 H2.out.y
  go_wp2_with fail
  refine (HQ.out _ H2.out.below).mono ?_
  rintro e4 w4 ⟨rfl, hb4⟩
  have H4 := Lib.hid (H2.out.next hb4)
  clear hb4
  clear x0 x1 x2 x3 x4 y0 y1 y2 y3 y4
  obtain ⟨x0, x1, x2, x3, x4⟩ := box5 H4.out.x
  obtain ⟨y0, y1, y2, y3, y4⟩ := box5 H4.out.y
  go_wp2_with fail
  refine (HC.out _ H4.out.below).mono ?_
  rintro e5 w5 ⟨rk, rn, rs, rks, res, RA, ra, RC, rc, hrv, rfl, hb5, hl5⟩
  have hsw5 := H4.out.r.lt
  have hsb5 := hb5.size
  have H5 := Lib.hid (H4.out.next hb5)
  have HL := Lib.hid hl5
  clear hb5 hl5 hrv
  clear x0 x1 x2 x3 x4 y0 y1 y2 y3 y4
  obtain ⟨t0, t1, t2, t3, t4⟩ := box5 H5.out.r
  have z0 := H5.out.r.free 0
  have z1 := H5.out.r.free 1
  have z2 := H5.out.r.free 2
  have z3 := H5.out.r.free 3
  have z4 := H5.out.r.free 4
  go_wp2_with fail
  refine bodyPost_ret (v := .tuple #[.agg #[.int .i64 rk, .int .i64 rn, .string rs, .slice RA rks.length ra, .slice RC res.length rc], .int .i64 er]) (by simp [results, Tryz.results15, go_sem, t0, t1, t2, t3, t4]) rfl ?_
  refine retT_put H5.out.below (by omega) H5.out.r.lt (HL.out.move fun b hb => ⟨?_, rfl⟩)
  rcases hb with h9 | h9
  · have := hS b h9
    exact ⟨.inl h9, by omega⟩
  · exact ⟨.inr ⟨by omega, h9.2⟩, by omega⟩
set_option maxHeartbeats 4000000 in
set_option maxRecDepth 100000 in
theorem rbin_4 (v u : V) (cs ds : List Value) (w : World) (S : Nat → Prop) (hS : ∀ b, S b → b < w.heap.size) (h : Lies w S v cs) (h' : Lies w S u ds) (hv : valid v = true) (hu : valid u = true) (r : V) (er : Int) (hc : ∀ W, Below w.heap.size w W → Calls Tryz.prog 119 #[.string ⟨#[37]⟩, .agg cs.toArray, .agg ds.toArray] W (RetT S r er W)) :
    Calls Tryz.prog 15 #[.string ⟨#[37]⟩, .agg cs.toArray, .agg ds.toArray] w (RetT S r er w) := by
  have HV : Hid (∀ W, Below w.heap.size w W → Calls Tryz.prog 112 #[.agg cs.toArray] W fun e w' => e = .returned (.bool true) ∧ Below W.heap.size W w') := Lib.hid fun W hW => by
    have h9 := rvalid_any v cs W (below_lies hW (h.move fun b hb => ⟨hS b hb, rfl⟩))
    rw [valid_same, hv] at h9
    exact h9
  have HU : Hid (∀ W, Below w.heap.size w W → Calls Tryz.prog 112 #[.agg ds.toArray] W fun e w' => e = .returned (.bool true) ∧ Below W.heap.size W w') := Lib.hid fun W hW => by
    have h9 := rvalid_any u ds W (below_lies hW (h'.move fun b hb => ⟨hS b hb, rfl⟩))
    rw [valid_same, hu] at h9
    exact h9
  have HOP := Lib.hid (fun W => rop_4 W)
  have HQ : Hid (∀ W, Below w.heap.size w W → Calls Tryz.prog 114 #[.agg cs.toArray, .agg ds.toArray] W fun e w' => e = .returned (.int .i64 (vcmp v u)) ∧ Below W.heap.size W w') := Lib.hid fun W hW => rorder_any v u cs ds W (below_lies hW (h.move fun b hb => ⟨hS b hb, rfl⟩)) (below_lies hW (h'.move fun b hb => ⟨hS b hb, rfl⟩))
  have HC := Lib.hid (fun W hW => retT_open (hc W hW))
  generalize vcmp v u = q at HQ
  obtain ⟨k, n, s, ks, es⟩ := v
  obtain ⟨A, a, B, b, xs, rfl, _⟩ := lies_open h
  obtain ⟨k2, n2, s2, ks2, es2⟩ := u
  obtain ⟨A2, a2, B2, b2, xs2, rfl, _⟩ := lies_open h'
  clear h h' hv hu hc
  generalize ks.length = l1 at *
  generalize es.length = l2 at *
  generalize ks2.length = l3 at *
  generalize es2.length = l4 at *
  show Calls _ _ #[_, .agg #[.int .i64 k, .int .i64 n, .string s, .slice A l1 a, .slice B l2 b], .agg #[.int .i64 k2, .int .i64 n2, .string s2, .slice A2 l3 a2, .slice B2 l4 b2]] w _
  have H0 := Lib.hid (B3.start w #[.int .i64 k, .int .i64 n, .string s, .slice A l1 a, .slice B l2 b] #[.int .i64 k2, .int .i64 n2, .string s2, .slice A2 l3 a2, .slice B2 l4 b2])
  go_enter Tryz.func15, Tryz.ntmps15
  go_wp2_with fail
  refine (HV.out _ H0.out.below).mono ?_
  rintro e1 w1 ⟨rfl, hb1⟩
  have H1 := Lib.hid (H0.out.next hb1)
  clear hb1
  obtain ⟨y0, y1, y2, y3, y4⟩ := box5 H1.out.y
  go_wp2_with fail
  refine (HU.out _ H1.out.below).mono ?_
  rintro e2 w2 ⟨rfl, hb2⟩
  have H2 := Lib.hid (H1.out.next hb2)
  clear hb2
  clear y0 y1 y2 y3 y4
  go_wp2_with fail
  refine (HOP.out _).mono ?_
  rintro e3 w3 ⟨rfl, rfl⟩
  obtain ⟨x0, x1, x2, x3, x4⟩ := box5 H2.out.x
  obtain ⟨y0, y1, y2, y3, y4⟩ := box5 H2.out.y
  go_wp2_with fail
  refine (HQ.out _ H2.out.below).mono ?_
  rintro e4 w4 ⟨rfl, hb4⟩
  have H4 := Lib.hid (H2.out.next hb4)
  clear hb4
  clear x0 x1 x2 x3 x4 y0 y1 y2 y3 y4
  obtain ⟨x0, x1, x2, x3, x4⟩ := box5 H4.out.x
  obtain ⟨y0, y1, y2, y3, y4⟩ := box5 H4.out.y
  go_wp2_with fail
  refine (HC.out _ H4.out.below).mono ?_
  rintro e5 w5 ⟨rk, rn, rs, rks, res, RA, ra, RC, rc, hrv, rfl, hb5, hl5⟩
  have hsw5 := H4.out.r.lt
  have hsb5 := hb5.size
  have H5 := Lib.hid (H4.out.next hb5)
  have HL := Lib.hid hl5
  clear hb5 hl5 hrv
  clear x0 x1 x2 x3 x4 y0 y1 y2 y3 y4
  obtain ⟨t0, t1, t2, t3, t4⟩ := box5 H5.out.r
  have z0 := H5.out.r.free 0
  have z1 := H5.out.r.free 1
  have z2 := H5.out.r.free 2
  have z3 := H5.out.r.free 3
  have z4 := H5.out.r.free 4
  go_wp2_with fail
  refine bodyPost_ret (v := .tuple #[.agg #[.int .i64 rk, .int .i64 rn, .string rs, .slice RA rks.length ra, .slice RC res.length rc], .int .i64 er]) (by simp [results, Tryz.results15, go_sem, t0, t1, t2, t3, t4]) rfl ?_
  refine retT_put H5.out.below (by omega) H5.out.r.lt (HL.out.move fun b hb => ⟨?_, rfl⟩)
  rcases hb with h9 | h9
  · have := hS b h9
    exact ⟨.inl h9, by omega⟩
  · exact ⟨.inr ⟨by omega, h9.2⟩, by omega⟩
set_option maxHeartbeats 4000000 in
set_option maxRecDepth 100000 in
theorem rbin_5 (v u : V) (cs ds : List Value) (w : World) (S : Nat → Prop) (hS : ∀ b, S b → b < w.heap.size) (h : Lies w S v cs) (h' : Lies w S u ds) (hv : valid v = true) (hu : valid u = true) :
    Calls Tryz.prog 15 #[.string ⟨#[61, 61]⟩, .agg cs.toArray, .agg ds.toArray] w (RetT S (boolV (cmpB 0 (vcmp v u))) 0 w) := by
  have HV : Hid (∀ W, Below w.heap.size w W → Calls Tryz.prog 112 #[.agg cs.toArray] W fun e w' => e = .returned (.bool true) ∧ Below W.heap.size W w') := Lib.hid fun W hW => by
    have h9 := rvalid_any v cs W (below_lies hW (h.move fun b hb => ⟨hS b hb, rfl⟩))
    rw [valid_same, hv] at h9
    exact h9
  have HU : Hid (∀ W, Below w.heap.size w W → Calls Tryz.prog 112 #[.agg ds.toArray] W fun e w' => e = .returned (.bool true) ∧ Below W.heap.size W w') := Lib.hid fun W hW => by
    have h9 := rvalid_any u ds W (below_lies hW (h'.move fun b hb => ⟨hS b hb, rfl⟩))
    rw [valid_same, hu] at h9
    exact h9
  have HOP := Lib.hid (fun W => rop_5 W)
  have HQ : Hid (∀ W, Below w.heap.size w W → Calls Tryz.prog 114 #[.agg cs.toArray, .agg ds.toArray] W fun e w' => e = .returned (.int .i64 (vcmp v u)) ∧ Below W.heap.size W w') := Lib.hid fun W hW => rorder_any v u cs ds W (below_lies hW (h.move fun b hb => ⟨hS b hb, rfl⟩)) (below_lies hW (h'.move fun b hb => ⟨hS b hb, rfl⟩))
  generalize vcmp v u = q at HQ ⊢
  obtain ⟨bb, hbb⟩ : ∃ b, cmpB 0 q = b := ⟨_, rfl⟩
  have HQB : Hid ((q == 0) = bb) := Lib.hid (by rw [← hbb]; unfold cmpB; first | rfl | (simp [bne, beq_eq_decide]; done) | (by_cases hq : q = 0 <;> simp [hq]))
  rw [hbb]
  clear hbb
  obtain ⟨kb, hkb⟩ : ∃ k : Int, (if bb then 2 else 1) = k := ⟨_, rfl⟩
  have HLB : Hid (∀ (W : World) (T : Nat → Prop), Lies W T (boolV bb) [.int .i64 kb, .int .i64 0, .string ⟨#[]⟩, .slice none 0 0, .slice none 0 0]) := Lib.hid fun W T => by rw [← hkb]; exact lies_boolv _ _ _
  have HBL : Hid (∀ (b : Bool) (W : World), b = bb → Calls Tryz.prog 115 #[.bool b] W fun e w' => e = .returned (.agg #[.int .i64 kb, .int .i64 0, .string ⟨#[]⟩, .slice none 0 0, .slice none 0 0]) ∧ Below W.heap.size W w') := Lib.hid fun b W hb => by rw [← hkb, ← hb]; exact rbool_any b W
  clear hkb
  obtain ⟨k, n, s, ks, es⟩ := v
  obtain ⟨A, a, B, b, xs, rfl, _⟩ := lies_open h
  obtain ⟨k2, n2, s2, ks2, es2⟩ := u
  obtain ⟨A2, a2, B2, b2, xs2, rfl, _⟩ := lies_open h'
  clear h h' hv hu
  generalize ks.length = l1 at *
  generalize es.length = l2 at *
  generalize ks2.length = l3 at *
  generalize es2.length = l4 at *
  show Calls _ _ #[_, .agg #[.int .i64 k, .int .i64 n, .string s, .slice A l1 a, .slice B l2 b], .agg #[.int .i64 k2, .int .i64 n2, .string s2, .slice A2 l3 a2, .slice B2 l4 b2]] w _
  have H0 := Lib.hid (B3.start w #[.int .i64 k, .int .i64 n, .string s, .slice A l1 a, .slice B l2 b] #[.int .i64 k2, .int .i64 n2, .string s2, .slice A2 l3 a2, .slice B2 l4 b2])
  go_enter Tryz.func15, Tryz.ntmps15
  go_wp2_with fail
  refine (HV.out _ H0.out.below).mono ?_
  rintro e1 w1 ⟨rfl, hb1⟩
  have H1 := Lib.hid (H0.out.next hb1)
  clear hb1
  obtain ⟨y0, y1, y2, y3, y4⟩ := box5 H1.out.y
  go_wp2_with fail
  refine (HU.out _ H1.out.below).mono ?_
  rintro e2 w2 ⟨rfl, hb2⟩
  have H2 := Lib.hid (H1.out.next hb2)
  clear hb2
  clear y0 y1 y2 y3 y4
  go_wp2_with fail
  refine (HOP.out _).mono ?_
  rintro e3 w3 ⟨rfl, rfl⟩
  obtain ⟨x0, x1, x2, x3, x4⟩ := box5 H2.out.x
  obtain ⟨y0, y1, y2, y3, y4⟩ := box5 H2.out.y
  go_wp2_with fail
  refine (HQ.out _ H2.out.below).mono ?_
  rintro e4 w4 ⟨rfl, hb4⟩
  have H4 := Lib.hid (H2.out.next hb4)
  clear hb4
  clear x0 x1 x2 x3 x4 y0 y1 y2 y3 y4
  go_wp2_with fail
  refine (HBL.out _ _ (by first | exact HQB.out | (rw [← HQB.out]; rfl) | (rw [← HQB.out]; simp [bne, beq_eq_decide]; done))).mono ?_
  rintro e5 w5 ⟨rfl, hb5⟩
  have H5 := Lib.hid (H4.out.next hb5)
  clear hb5
  obtain ⟨t0, t1, t2, t3, t4⟩ := box5 H5.out.r
  have z0 := H5.out.r.free 0
  have z1 := H5.out.r.free 1
  have z2 := H5.out.r.free 2
  have z3 := H5.out.r.free 3
  have z4 := H5.out.r.free 4
  go_wp2_with fail
  refine bodyPost_ret (v := .tuple #[.agg #[.int .i64 kb, .int .i64 0, .string ⟨#[]⟩, .slice none 0 0, .slice none 0 0], .int .i64 0]) (by simp [results, Tryz.results15, go_sem, t0, t1, t2, t3, t4]) rfl ?_
  exact retT_put H5.out.below (by omega) H5.out.r.lt (HLB.out _ _)
set_option maxHeartbeats 4000000 in
set_option maxRecDepth 100000 in
theorem rbin_6 (v u : V) (cs ds : List Value) (w : World) (S : Nat → Prop) (hS : ∀ b, S b → b < w.heap.size) (h : Lies w S v cs) (h' : Lies w S u ds) (hv : valid v = true) (hu : valid u = true) :
    Calls Tryz.prog 15 #[.string ⟨#[33, 61]⟩, .agg cs.toArray, .agg ds.toArray] w (RetT S (boolV (cmpB 1 (vcmp v u))) 0 w) := by
  have HV : Hid (∀ W, Below w.heap.size w W → Calls Tryz.prog 112 #[.agg cs.toArray] W fun e w' => e = .returned (.bool true) ∧ Below W.heap.size W w') := Lib.hid fun W hW => by
    have h9 := rvalid_any v cs W (below_lies hW (h.move fun b hb => ⟨hS b hb, rfl⟩))
    rw [valid_same, hv] at h9
    exact h9
  have HU : Hid (∀ W, Below w.heap.size w W → Calls Tryz.prog 112 #[.agg ds.toArray] W fun e w' => e = .returned (.bool true) ∧ Below W.heap.size W w') := Lib.hid fun W hW => by
    have h9 := rvalid_any u ds W (below_lies hW (h'.move fun b hb => ⟨hS b hb, rfl⟩))
    rw [valid_same, hu] at h9
    exact h9
  have HOP := Lib.hid (fun W => rop_6 W)
  have HQ : Hid (∀ W, Below w.heap.size w W → Calls Tryz.prog 114 #[.agg cs.toArray, .agg ds.toArray] W fun e w' => e = .returned (.int .i64 (vcmp v u)) ∧ Below W.heap.size W w') := Lib.hid fun W hW => rorder_any v u cs ds W (below_lies hW (h.move fun b hb => ⟨hS b hb, rfl⟩)) (below_lies hW (h'.move fun b hb => ⟨hS b hb, rfl⟩))
  generalize vcmp v u = q at HQ ⊢
  obtain ⟨bb, hbb⟩ : ∃ b, cmpB 1 q = b := ⟨_, rfl⟩
  have HQB : Hid ((q != 0) = bb) := Lib.hid (by rw [← hbb]; unfold cmpB; first | rfl | (simp [bne, beq_eq_decide]; done) | (by_cases hq : q = 0 <;> simp [hq]))
  rw [hbb]
  clear hbb
  obtain ⟨kb, hkb⟩ : ∃ k : Int, (if bb then 2 else 1) = k := ⟨_, rfl⟩
  have HLB : Hid (∀ (W : World) (T : Nat → Prop), Lies W T (boolV bb) [.int .i64 kb, .int .i64 0, .string ⟨#[]⟩, .slice none 0 0, .slice none 0 0]) := Lib.hid fun W T => by rw [← hkb]; exact lies_boolv _ _ _
  have HBL : Hid (∀ (b : Bool) (W : World), b = bb → Calls Tryz.prog 115 #[.bool b] W fun e w' => e = .returned (.agg #[.int .i64 kb, .int .i64 0, .string ⟨#[]⟩, .slice none 0 0, .slice none 0 0]) ∧ Below W.heap.size W w') := Lib.hid fun b W hb => by rw [← hkb, ← hb]; exact rbool_any b W
  clear hkb
  obtain ⟨k, n, s, ks, es⟩ := v
  obtain ⟨A, a, B, b, xs, rfl, _⟩ := lies_open h
  obtain ⟨k2, n2, s2, ks2, es2⟩ := u
  obtain ⟨A2, a2, B2, b2, xs2, rfl, _⟩ := lies_open h'
  clear h h' hv hu
  generalize ks.length = l1 at *
  generalize es.length = l2 at *
  generalize ks2.length = l3 at *
  generalize es2.length = l4 at *
  show Calls _ _ #[_, .agg #[.int .i64 k, .int .i64 n, .string s, .slice A l1 a, .slice B l2 b], .agg #[.int .i64 k2, .int .i64 n2, .string s2, .slice A2 l3 a2, .slice B2 l4 b2]] w _
  have H0 := Lib.hid (B3.start w #[.int .i64 k, .int .i64 n, .string s, .slice A l1 a, .slice B l2 b] #[.int .i64 k2, .int .i64 n2, .string s2, .slice A2 l3 a2, .slice B2 l4 b2])
  go_enter Tryz.func15, Tryz.ntmps15
  go_wp2_with fail
  refine (HV.out _ H0.out.below).mono ?_
  rintro e1 w1 ⟨rfl, hb1⟩
  have H1 := Lib.hid (H0.out.next hb1)
  clear hb1
  obtain ⟨y0, y1, y2, y3, y4⟩ := box5 H1.out.y
  go_wp2_with fail
  refine (HU.out _ H1.out.below).mono ?_
  rintro e2 w2 ⟨rfl, hb2⟩
  have H2 := Lib.hid (H1.out.next hb2)
  clear hb2
  clear y0 y1 y2 y3 y4
  go_wp2_with fail
  refine (HOP.out _).mono ?_
  rintro e3 w3 ⟨rfl, rfl⟩
  obtain ⟨x0, x1, x2, x3, x4⟩ := box5 H2.out.x
  obtain ⟨y0, y1, y2, y3, y4⟩ := box5 H2.out.y
  go_wp2_with fail
  refine (HQ.out _ H2.out.below).mono ?_
  rintro e4 w4 ⟨rfl, hb4⟩
  have H4 := Lib.hid (H2.out.next hb4)
  clear hb4
  clear x0 x1 x2 x3 x4 y0 y1 y2 y3 y4
  go_wp2_with fail
  refine (HBL.out _ _ (by first | exact HQB.out | (rw [← HQB.out]; rfl) | (rw [← HQB.out]; simp [bne, beq_eq_decide]; done))).mono ?_
  rintro e5 w5 ⟨rfl, hb5⟩
  have H5 := Lib.hid (H4.out.next hb5)
  clear hb5
  obtain ⟨t0, t1, t2, t3, t4⟩ := box5 H5.out.r
  have z0 := H5.out.r.free 0
  have z1 := H5.out.r.free 1
  have z2 := H5.out.r.free 2
  have z3 := H5.out.r.free 3
  have z4 := H5.out.r.free 4
  go_wp2_with fail
  refine bodyPost_ret (v := .tuple #[.agg #[.int .i64 kb, .int .i64 0, .string ⟨#[]⟩, .slice none 0 0, .slice none 0 0], .int .i64 0]) (by simp [results, Tryz.results15, go_sem, t0, t1, t2, t3, t4]) rfl ?_
  exact retT_put H5.out.below (by omega) H5.out.r.lt (HLB.out _ _)
set_option maxHeartbeats 4000000 in
set_option maxRecDepth 100000 in
theorem rbin_7 (v u : V) (cs ds : List Value) (w : World) (S : Nat → Prop) (hS : ∀ b, S b → b < w.heap.size) (h : Lies w S v cs) (h' : Lies w S u ds) (hv : valid v = true) (hu : valid u = true) :
    Calls Tryz.prog 15 #[.string ⟨#[60]⟩, .agg cs.toArray, .agg ds.toArray] w (RetT S (boolV (cmpB 2 (vcmp v u))) 0 w) := by
  have HV : Hid (∀ W, Below w.heap.size w W → Calls Tryz.prog 112 #[.agg cs.toArray] W fun e w' => e = .returned (.bool true) ∧ Below W.heap.size W w') := Lib.hid fun W hW => by
    have h9 := rvalid_any v cs W (below_lies hW (h.move fun b hb => ⟨hS b hb, rfl⟩))
    rw [valid_same, hv] at h9
    exact h9
  have HU : Hid (∀ W, Below w.heap.size w W → Calls Tryz.prog 112 #[.agg ds.toArray] W fun e w' => e = .returned (.bool true) ∧ Below W.heap.size W w') := Lib.hid fun W hW => by
    have h9 := rvalid_any u ds W (below_lies hW (h'.move fun b hb => ⟨hS b hb, rfl⟩))
    rw [valid_same, hu] at h9
    exact h9
  have HOP := Lib.hid (fun W => rop_7 W)
  have HQ : Hid (∀ W, Below w.heap.size w W → Calls Tryz.prog 114 #[.agg cs.toArray, .agg ds.toArray] W fun e w' => e = .returned (.int .i64 (vcmp v u)) ∧ Below W.heap.size W w') := Lib.hid fun W hW => rorder_any v u cs ds W (below_lies hW (h.move fun b hb => ⟨hS b hb, rfl⟩)) (below_lies hW (h'.move fun b hb => ⟨hS b hb, rfl⟩))
  generalize vcmp v u = q at HQ ⊢
  obtain ⟨bb, hbb⟩ : ∃ b, cmpB 2 q = b := ⟨_, rfl⟩
  have HQB : Hid ((decide (q < 0)) = bb) := Lib.hid (by rw [← hbb]; unfold cmpB; first | rfl | (simp [bne, beq_eq_decide]; done) | (by_cases hq : q = 0 <;> simp [hq]))
  rw [hbb]
  clear hbb
  obtain ⟨kb, hkb⟩ : ∃ k : Int, (if bb then 2 else 1) = k := ⟨_, rfl⟩
  have HLB : Hid (∀ (W : World) (T : Nat → Prop), Lies W T (boolV bb) [.int .i64 kb, .int .i64 0, .string ⟨#[]⟩, .slice none 0 0, .slice none 0 0]) := Lib.hid fun W T => by rw [← hkb]; exact lies_boolv _ _ _
  have HBL : Hid (∀ (b : Bool) (W : World), b = bb → Calls Tryz.prog 115 #[.bool b] W fun e w' => e = .returned (.agg #[.int .i64 kb, .int .i64 0, .string ⟨#[]⟩, .slice none 0 0, .slice none 0 0]) ∧ Below W.heap.size W w') := Lib.hid fun b W hb => by rw [← hkb, ← hb]; exact rbool_any b W
  clear hkb
  obtain ⟨k, n, s, ks, es⟩ := v
  obtain ⟨A, a, B, b, xs, rfl, _⟩ := lies_open h
  obtain ⟨k2, n2, s2, ks2, es2⟩ := u
  obtain ⟨A2, a2, B2, b2, xs2, rfl, _⟩ := lies_open h'
  clear h h' hv hu
  generalize ks.length = l1 at *
  generalize es.length = l2 at *
  generalize ks2.length = l3 at *
  generalize es2.length = l4 at *
  show Calls _ _ #[_, .agg #[.int .i64 k, .int .i64 n, .string s, .slice A l1 a, .slice B l2 b], .agg #[.int .i64 k2, .int .i64 n2, .string s2, .slice A2 l3 a2, .slice B2 l4 b2]] w _
  have H0 := Lib.hid (B3.start w #[.int .i64 k, .int .i64 n, .string s, .slice A l1 a, .slice B l2 b] #[.int .i64 k2, .int .i64 n2, .string s2, .slice A2 l3 a2, .slice B2 l4 b2])
  go_enter Tryz.func15, Tryz.ntmps15
  go_wp2_with fail
  refine (HV.out _ H0.out.below).mono ?_
  rintro e1 w1 ⟨rfl, hb1⟩
  have H1 := Lib.hid (H0.out.next hb1)
  clear hb1
  obtain ⟨y0, y1, y2, y3, y4⟩ := box5 H1.out.y
  go_wp2_with fail
  refine (HU.out _ H1.out.below).mono ?_
  rintro e2 w2 ⟨rfl, hb2⟩
  have H2 := Lib.hid (H1.out.next hb2)
  clear hb2
  clear y0 y1 y2 y3 y4
  go_wp2_with fail
  refine (HOP.out _).mono ?_
  rintro e3 w3 ⟨rfl, rfl⟩
  obtain ⟨x0, x1, x2, x3, x4⟩ := box5 H2.out.x
  obtain ⟨y0, y1, y2, y3, y4⟩ := box5 H2.out.y
  go_wp2_with fail
  refine (HQ.out _ H2.out.below).mono ?_
  rintro e4 w4 ⟨rfl, hb4⟩
  have H4 := Lib.hid (H2.out.next hb4)
  clear hb4
  clear x0 x1 x2 x3 x4 y0 y1 y2 y3 y4
  go_wp2_with fail
  refine (HBL.out _ _ (by first | exact HQB.out | (rw [← HQB.out]; rfl) | (rw [← HQB.out]; simp [bne, beq_eq_decide]; done))).mono ?_
  rintro e5 w5 ⟨rfl, hb5⟩
  have H5 := Lib.hid (H4.out.next hb5)
  clear hb5
  obtain ⟨t0, t1, t2, t3, t4⟩ := box5 H5.out.r
  have z0 := H5.out.r.free 0
  have z1 := H5.out.r.free 1
  have z2 := H5.out.r.free 2
  have z3 := H5.out.r.free 3
  have z4 := H5.out.r.free 4
  go_wp2_with fail
  refine bodyPost_ret (v := .tuple #[.agg #[.int .i64 kb, .int .i64 0, .string ⟨#[]⟩, .slice none 0 0, .slice none 0 0], .int .i64 0]) (by simp [results, Tryz.results15, go_sem, t0, t1, t2, t3, t4]) rfl ?_
  exact retT_put H5.out.below (by omega) H5.out.r.lt (HLB.out _ _)
set_option maxHeartbeats 4000000 in
set_option maxRecDepth 100000 in
theorem rbin_8 (v u : V) (cs ds : List Value) (w : World) (S : Nat → Prop) (hS : ∀ b, S b → b < w.heap.size) (h : Lies w S v cs) (h' : Lies w S u ds) (hv : valid v = true) (hu : valid u = true) :
    Calls Tryz.prog 15 #[.string ⟨#[60, 61]⟩, .agg cs.toArray, .agg ds.toArray] w (RetT S (boolV (cmpB 3 (vcmp v u))) 0 w) := by
  have HV : Hid (∀ W, Below w.heap.size w W → Calls Tryz.prog 112 #[.agg cs.toArray] W fun e w' => e = .returned (.bool true) ∧ Below W.heap.size W w') := Lib.hid fun W hW => by
    have h9 := rvalid_any v cs W (below_lies hW (h.move fun b hb => ⟨hS b hb, rfl⟩))
    rw [valid_same, hv] at h9
    exact h9
  have HU : Hid (∀ W, Below w.heap.size w W → Calls Tryz.prog 112 #[.agg ds.toArray] W fun e w' => e = .returned (.bool true) ∧ Below W.heap.size W w') := Lib.hid fun W hW => by
    have h9 := rvalid_any u ds W (below_lies hW (h'.move fun b hb => ⟨hS b hb, rfl⟩))
    rw [valid_same, hu] at h9
    exact h9
  have HOP := Lib.hid (fun W => rop_8 W)
  have HQ : Hid (∀ W, Below w.heap.size w W → Calls Tryz.prog 114 #[.agg cs.toArray, .agg ds.toArray] W fun e w' => e = .returned (.int .i64 (vcmp v u)) ∧ Below W.heap.size W w') := Lib.hid fun W hW => rorder_any v u cs ds W (below_lies hW (h.move fun b hb => ⟨hS b hb, rfl⟩)) (below_lies hW (h'.move fun b hb => ⟨hS b hb, rfl⟩))
  generalize vcmp v u = q at HQ ⊢
  obtain ⟨bb, hbb⟩ : ∃ b, cmpB 3 q = b := ⟨_, rfl⟩
  have HQB : Hid ((decide (q ≤ 0)) = bb) := Lib.hid (by rw [← hbb]; unfold cmpB; first | rfl | (simp [bne, beq_eq_decide]; done) | (by_cases hq : q = 0 <;> simp [hq]))
  rw [hbb]
  clear hbb
  obtain ⟨kb, hkb⟩ : ∃ k : Int, (if bb then 2 else 1) = k := ⟨_, rfl⟩
  have HLB : Hid (∀ (W : World) (T : Nat → Prop), Lies W T (boolV bb) [.int .i64 kb, .int .i64 0, .string ⟨#[]⟩, .slice none 0 0, .slice none 0 0]) := Lib.hid fun W T => by rw [← hkb]; exact lies_boolv _ _ _
  have HBL : Hid (∀ (b : Bool) (W : World), b = bb → Calls Tryz.prog 115 #[.bool b] W fun e w' => e = .returned (.agg #[.int .i64 kb, .int .i64 0, .string ⟨#[]⟩, .slice none 0 0, .slice none 0 0]) ∧ Below W.heap.size W w') := Lib.hid fun b W hb => by rw [← hkb, ← hb]; exact rbool_any b W
  clear hkb
  obtain ⟨k, n, s, ks, es⟩ := v
  obtain ⟨A, a, B, b, xs, rfl, _⟩ := lies_open h
  obtain ⟨k2, n2, s2, ks2, es2⟩ := u
  obtain ⟨A2, a2, B2, b2, xs2, rfl, _⟩ := lies_open h'
  clear h h' hv hu
  generalize ks.length = l1 at *
  generalize es.length = l2 at *
  generalize ks2.length = l3 at *
  generalize es2.length = l4 at *
  show Calls _ _ #[_, .agg #[.int .i64 k, .int .i64 n, .string s, .slice A l1 a, .slice B l2 b], .agg #[.int .i64 k2, .int .i64 n2, .string s2, .slice A2 l3 a2, .slice B2 l4 b2]] w _
  have H0 := Lib.hid (B3.start w #[.int .i64 k, .int .i64 n, .string s, .slice A l1 a, .slice B l2 b] #[.int .i64 k2, .int .i64 n2, .string s2, .slice A2 l3 a2, .slice B2 l4 b2])
  go_enter Tryz.func15, Tryz.ntmps15
  go_wp2_with fail
  refine (HV.out _ H0.out.below).mono ?_
  rintro e1 w1 ⟨rfl, hb1⟩
  have H1 := Lib.hid (H0.out.next hb1)
  clear hb1
  obtain ⟨y0, y1, y2, y3, y4⟩ := box5 H1.out.y
  go_wp2_with fail
  refine (HU.out _ H1.out.below).mono ?_
  rintro e2 w2 ⟨rfl, hb2⟩
  have H2 := Lib.hid (H1.out.next hb2)
  clear hb2
  clear y0 y1 y2 y3 y4
  go_wp2_with fail
  refine (HOP.out _).mono ?_
  rintro e3 w3 ⟨rfl, rfl⟩
  obtain ⟨x0, x1, x2, x3, x4⟩ := box5 H2.out.x
  obtain ⟨y0, y1, y2, y3, y4⟩ := box5 H2.out.y
  go_wp2_with fail
  refine (HQ.out _ H2.out.below).mono ?_
  rintro e4 w4 ⟨rfl, hb4⟩
  have H4 := Lib.hid (H2.out.next hb4)
  clear hb4
  clear x0 x1 x2 x3 x4 y0 y1 y2 y3 y4
  go_wp2_with fail
  refine (HBL.out _ _ (by first | exact HQB.out | (rw [← HQB.out]; rfl) | (rw [← HQB.out]; simp [bne, beq_eq_decide]; done))).mono ?_
  rintro e5 w5 ⟨rfl, hb5⟩
  have H5 := Lib.hid (H4.out.next hb5)
  clear hb5
  obtain ⟨t0, t1, t2, t3, t4⟩ := box5 H5.out.r
  have z0 := H5.out.r.free 0
  have z1 := H5.out.r.free 1
  have z2 := H5.out.r.free 2
  have z3 := H5.out.r.free 3
  have z4 := H5.out.r.free 4
  go_wp2_with fail
  refine bodyPost_ret (v := .tuple #[.agg #[.int .i64 kb, .int .i64 0, .string ⟨#[]⟩, .slice none 0 0, .slice none 0 0], .int .i64 0]) (by simp [results, Tryz.results15, go_sem, t0, t1, t2, t3, t4]) rfl ?_
  exact retT_put H5.out.below (by omega) H5.out.r.lt (HLB.out _ _)
set_option maxHeartbeats 4000000 in
set_option maxRecDepth 100000 in
theorem rbin_9 (v u : V) (cs ds : List Value) (w : World) (S : Nat → Prop) (hS : ∀ b, S b → b < w.heap.size) (h : Lies w S v cs) (h' : Lies w S u ds) (hv : valid v = true) (hu : valid u = true) :
    Calls Tryz.prog 15 #[.string ⟨#[62]⟩, .agg cs.toArray, .agg ds.toArray] w (RetT S (boolV (cmpB 4 (vcmp v u))) 0 w) := by
  have HV : Hid (∀ W, Below w.heap.size w W → Calls Tryz.prog 112 #[.agg cs.toArray] W fun e w' => e = .returned (.bool true) ∧ Below W.heap.size W w') := Lib.hid fun W hW => by
    have h9 := rvalid_any v cs W (below_lies hW (h.move fun b hb => ⟨hS b hb, rfl⟩))
    rw [valid_same, hv] at h9
    exact h9
  have HU : Hid (∀ W, Below w.heap.size w W → Calls Tryz.prog 112 #[.agg ds.toArray] W fun e w' => e = .returned (.bool true) ∧ Below W.heap.size W w') := Lib.hid fun W hW => by
    have h9 := rvalid_any u ds W (below_lies hW (h'.move fun b hb => ⟨hS b hb, rfl⟩))
    rw [valid_same, hu] at h9
    exact h9
  have HOP := Lib.hid (fun W => rop_9 W)
  have HQ : Hid (∀ W, Below w.heap.size w W → Calls Tryz.prog 114 #[.agg cs.toArray, .agg ds.toArray] W fun e w' => e = .returned (.int .i64 (vcmp v u)) ∧ Below W.heap.size W w') := Lib.hid fun W hW => rorder_any v u cs ds W (below_lies hW (h.move fun b hb => ⟨hS b hb, rfl⟩)) (below_lies hW (h'.move fun b hb => ⟨hS b hb, rfl⟩))
  generalize vcmp v u = q at HQ ⊢
  obtain ⟨bb, hbb⟩ : ∃ b, cmpB 4 q = b := ⟨_, rfl⟩
  have HQB : Hid ((decide (0 < q)) = bb) := Lib.hid (by rw [← hbb]; unfold cmpB; first | rfl | (simp [bne, beq_eq_decide]; done) | (by_cases hq : q = 0 <;> simp [hq]))
  rw [hbb]
  clear hbb
  obtain ⟨kb, hkb⟩ : ∃ k : Int, (if bb then 2 else 1) = k := ⟨_, rfl⟩
  have HLB : Hid (∀ (W : World) (T : Nat → Prop), Lies W T (boolV bb) [.int .i64 kb, .int .i64 0, .string ⟨#[]⟩, .slice none 0 0, .slice none 0 0]) := Lib.hid fun W T => by rw [← hkb]; exact lies_boolv _ _ _
  have HBL : Hid (∀ (b : Bool) (W : World), b = bb → Calls Tryz.prog 115 #[.bool b] W fun e w' => e = .returned (.agg #[.int .i64 kb, .int .i64 0, .string ⟨#[]⟩, .slice none 0 0, .slice none 0 0]) ∧ Below W.heap.size W w') := Lib.hid fun b W hb => by rw [← hkb, ← hb]; exact rbool_any b W
  clear hkb
  obtain ⟨k, n, s, ks, es⟩ := v
  obtain ⟨A, a, B, b, xs, rfl, _⟩ := lies_open h
  obtain ⟨k2, n2, s2, ks2, es2⟩ := u
  obtain ⟨A2, a2, B2, b2, xs2, rfl, _⟩ := lies_open h'
  clear h h' hv hu
  generalize ks.length = l1 at *
  generalize es.length = l2 at *
  generalize ks2.length = l3 at *
  generalize es2.length = l4 at *
  show Calls _ _ #[_, .agg #[.int .i64 k, .int .i64 n, .string s, .slice A l1 a, .slice B l2 b], .agg #[.int .i64 k2, .int .i64 n2, .string s2, .slice A2 l3 a2, .slice B2 l4 b2]] w _
  have H0 := Lib.hid (B3.start w #[.int .i64 k, .int .i64 n, .string s, .slice A l1 a, .slice B l2 b] #[.int .i64 k2, .int .i64 n2, .string s2, .slice A2 l3 a2, .slice B2 l4 b2])
  go_enter Tryz.func15, Tryz.ntmps15
  go_wp2_with fail
  refine (HV.out _ H0.out.below).mono ?_
  rintro e1 w1 ⟨rfl, hb1⟩
  have H1 := Lib.hid (H0.out.next hb1)
  clear hb1
  obtain ⟨y0, y1, y2, y3, y4⟩ := box5 H1.out.y
  go_wp2_with fail
  refine (HU.out _ H1.out.below).mono ?_
  rintro e2 w2 ⟨rfl, hb2⟩
  have H2 := Lib.hid (H1.out.next hb2)
  clear hb2
  clear y0 y1 y2 y3 y4
  go_wp2_with fail
  refine (HOP.out _).mono ?_
  rintro e3 w3 ⟨rfl, rfl⟩
  obtain ⟨x0, x1, x2, x3, x4⟩ := box5 H2.out.x
  obtain ⟨y0, y1, y2, y3, y4⟩ := box5 H2.out.y
  go_wp2_with fail
  refine (HQ.out _ H2.out.below).mono ?_
  rintro e4 w4 ⟨rfl, hb4⟩
  have H4 := Lib.hid (H2.out.next hb4)
  clear hb4
  clear x0 x1 x2 x3 x4 y0 y1 y2 y3 y4
  go_wp2_with fail
  refine (HBL.out _ _ (by first | exact HQB.out | (rw [← HQB.out]; rfl) | (rw [← HQB.out]; simp [bne, beq_eq_decide]; done))).mono ?_
  rintro e5 w5 ⟨rfl, hb5⟩
  have H5 := Lib.hid (H4.out.next hb5)
  clear hb5
  obtain ⟨t0, t1, t2, t3, t4⟩ := box5 H5.out.r
  have z0 := H5.out.r.free 0
  have z1 := H5.out.r.free 1
  have z2 := H5.out.r.free 2
  have z3 := H5.out.r.free 3
  have z4 := H5.out.r.free 4
  go_wp2_with fail
  refine bodyPost_ret (v := .tuple #[.agg #[.int .i64 kb, .int .i64 0, .string ⟨#[]⟩, .slice none 0 0, .slice none 0 0], .int .i64 0]) (by simp [results, Tryz.results15, go_sem, t0, t1, t2, t3, t4]) rfl ?_
  exact retT_put H5.out.below (by omega) H5.out.r.lt (HLB.out _ _)
set_option maxHeartbeats 4000000 in
set_option maxRecDepth 100000 in
theorem rbin_10 (v u : V) (cs ds : List Value) (w : World) (S : Nat → Prop) (hS : ∀ b, S b → b < w.heap.size) (h : Lies w S v cs) (h' : Lies w S u ds) (hv : valid v = true) (hu : valid u = true) :
    Calls Tryz.prog 15 #[.string ⟨#[62, 61]⟩, .agg cs.toArray, .agg ds.toArray] w (RetT S (boolV (cmpB 5 (vcmp v u))) 0 w) := by
  have HV : Hid (∀ W, Below w.heap.size w W → Calls Tryz.prog 112 #[.agg cs.toArray] W fun e w' => e = .returned (.bool true) ∧ Below W.heap.size W w') := Lib.hid fun W hW => by
    have h9 := rvalid_any v cs W (below_lies hW (h.move fun b hb => ⟨hS b hb, rfl⟩))
    rw [valid_same, hv] at h9
    exact h9
  have HU : Hid (∀ W, Below w.heap.size w W → Calls Tryz.prog 112 #[.agg ds.toArray] W fun e w' => e = .returned (.bool true) ∧ Below W.heap.size W w') := Lib.hid fun W hW => by
    have h9 := rvalid_any u ds W (below_lies hW (h'.move fun b hb => ⟨hS b hb, rfl⟩))
    rw [valid_same, hu] at h9
    exact h9
  have HOP := Lib.hid (fun W => rop_10 W)
  have HQ : Hid (∀ W, Below w.heap.size w W → Calls Tryz.prog 114 #[.agg cs.toArray, .agg ds.toArray] W fun e w' => e = .returned (.int .i64 (vcmp v u)) ∧ Below W.heap.size W w') := Lib.hid fun W hW => rorder_any v u cs ds W (below_lies hW (h.move fun b hb => ⟨hS b hb, rfl⟩)) (below_lies hW (h'.move fun b hb => ⟨hS b hb, rfl⟩))
  generalize vcmp v u = q at HQ ⊢
  obtain ⟨bb, hbb⟩ : ∃ b, cmpB 5 q = b := ⟨_, rfl⟩
  have HQB : Hid ((decide (0 ≤ q)) = bb) := Lib.hid (by rw [← hbb]; unfold cmpB; first | rfl | (simp [bne, beq_eq_decide]; done) | (by_cases hq : q = 0 <;> simp [hq]))
  rw [hbb]
  clear hbb
  obtain ⟨kb, hkb⟩ : ∃ k : Int, (if bb then 2 else 1) = k := ⟨_, rfl⟩
  have HLB : Hid (∀ (W : World) (T : Nat → Prop), Lies W T (boolV bb) [.int .i64 kb, .int .i64 0, .string ⟨#[]⟩, .slice none 0 0, .slice none 0 0]) := Lib.hid fun W T => by rw [← hkb]; exact lies_boolv _ _ _
  have HBL : Hid (∀ (b : Bool) (W : World), b = bb → Calls Tryz.prog 115 #[.bool b] W fun e w' => e = .returned (.agg #[.int .i64 kb, .int .i64 0, .string ⟨#[]⟩, .slice none 0 0, .slice none 0 0]) ∧ Below W.heap.size W w') := Lib.hid fun b W hb => by rw [← hkb, ← hb]; exact rbool_any b W
  clear hkb
  obtain ⟨k, n, s, ks, es⟩ := v
  obtain ⟨A, a, B, b, xs, rfl, _⟩ := lies_open h
  obtain ⟨k2, n2, s2, ks2, es2⟩ := u
  obtain ⟨A2, a2, B2, b2, xs2, rfl, _⟩ := lies_open h'
  clear h h' hv hu
  generalize ks.length = l1 at *
  generalize es.length = l2 at *
  generalize ks2.length = l3 at *
  generalize es2.length = l4 at *
  show Calls _ _ #[_, .agg #[.int .i64 k, .int .i64 n, .string s, .slice A l1 a, .slice B l2 b], .agg #[.int .i64 k2, .int .i64 n2, .string s2, .slice A2 l3 a2, .slice B2 l4 b2]] w _
  have H0 := Lib.hid (B3.start w #[.int .i64 k, .int .i64 n, .string s, .slice A l1 a, .slice B l2 b] #[.int .i64 k2, .int .i64 n2, .string s2, .slice A2 l3 a2, .slice B2 l4 b2])
  go_enter Tryz.func15, Tryz.ntmps15
  go_wp2_with fail
  refine (HV.out _ H0.out.below).mono ?_
  rintro e1 w1 ⟨rfl, hb1⟩
  have H1 := Lib.hid (H0.out.next hb1)
  clear hb1
  obtain ⟨y0, y1, y2, y3, y4⟩ := box5 H1.out.y
  go_wp2_with fail
  refine (HU.out _ H1.out.below).mono ?_
  rintro e2 w2 ⟨rfl, hb2⟩
  have H2 := Lib.hid (H1.out.next hb2)
  clear hb2
  clear y0 y1 y2 y3 y4
  go_wp2_with fail
  refine (HOP.out _).mono ?_
  rintro e3 w3 ⟨rfl, rfl⟩
  obtain ⟨x0, x1, x2, x3, x4⟩ := box5 H2.out.x
  obtain ⟨y0, y1, y2, y3, y4⟩ := box5 H2.out.y
  go_wp2_with fail
  refine (HQ.out _ H2.out.below).mono ?_
  rintro e4 w4 ⟨rfl, hb4⟩
  have H4 := Lib.hid (H2.out.next hb4)
  clear hb4
  clear x0 x1 x2 x3 x4 y0 y1 y2 y3 y4
  go_wp2_with fail
  refine (HBL.out _ _ (by first | exact HQB.out | (rw [← HQB.out]; rfl) | (rw [← HQB.out]; simp [bne, beq_eq_decide]; done))).mono ?_
  rintro e5 w5 ⟨rfl, hb5⟩
  have H5 := Lib.hid (H4.out.next hb5)
  clear hb5
  obtain ⟨t0, t1, t2, t3, t4⟩ := box5 H5.out.r
  have z0 := H5.out.r.free 0
  have z1 := H5.out.r.free 1
  have z2 := H5.out.r.free 2
  have z3 := H5.out.r.free 3
  have z4 := H5.out.r.free 4
  go_wp2_with fail
  refine bodyPost_ret (v := .tuple #[.agg #[.int .i64 kb, .int .i64 0, .string ⟨#[]⟩, .slice none 0 0, .slice none 0 0], .int .i64 0]) (by simp [results, Tryz.results15, go_sem, t0, t1, t2, t3, t4]) rfl ?_
  exact retT_put H5.out.below (by omega) H5.out.r.lt (HLB.out _ _)
set_option maxHeartbeats 4000000 in
set_option maxRecDepth 100000 in
theorem rmrg_inv1 (v u : V) (cs ds : List Value) (w : World) (S : Nat → Prop) (hS : ∀ b, S b → b < w.heap.size) (h : Lies w S v cs) (h' : Lies w S u ds) (hv : valid v = false) :
    Calls Tryz.prog 19 #[.agg cs.toArray, .agg ds.toArray] w (RetT S vnull 1 w) := by
  have HV : Hid (∀ W, Below w.heap.size w W → Calls Tryz.prog 112 #[.agg cs.toArray] W fun e w' => e = .returned (.bool false) ∧ Below W.heap.size W w') := Lib.hid fun W hW => by
    have h9 := rvalid_any v cs W (below_lies hW (h.move fun b hb => ⟨hS b hb, rfl⟩))
    rw [valid_same, hv] at h9
    exact h9
  obtain ⟨k, n, s, ks, es⟩ := v
  obtain ⟨A, a, B, b, xs, rfl, _⟩ := lies_open h
  obtain ⟨k2, n2, s2, ks2, es2⟩ := u
  obtain ⟨A2, a2, B2, b2, xs2, rfl, _⟩ := lies_open h'
  clear h h' hv
  generalize ks.length = l1 at *
  generalize es.length = l2 at *
  generalize ks2.length = l3 at *
  generalize es2.length = l4 at *
  show Calls _ _ #[.agg #[.int .i64 k, .int .i64 n, .string s, .slice A l1 a, .slice B l2 b], .agg #[.int .i64 k2, .int .i64 n2, .string s2, .slice A2 l3 a2, .slice B2 l4 b2]] w _
  have H0 := Lib.hid (B3.start w #[.int .i64 k, .int .i64 n, .string s, .slice A l1 a, .slice B l2 b] #[.int .i64 k2, .int .i64 n2, .string s2, .slice A2 l3 a2, .slice B2 l4 b2])
  go_enter Tryz.func19, Tryz.ntmps19
  go_wp2_with fail
  refine (HV.out _ H0.out.below).mono ?_
  rintro e1 w1 ⟨rfl, hb1⟩
  have H1 := Lib.hid (H0.out.next hb1)
  clear hb1
  obtain ⟨t0, t1, t2, t3, t4⟩ := box5 H1.out.r
  have z0 := H1.out.r.free 0
  have z1 := H1.out.r.free 1
  have z2 := H1.out.r.free 2
  have z3 := H1.out.r.free 3
  have z4 := H1.out.r.free 4
  go_wp2_with fail
  refine bodyPost_ret (v := .tuple #[.agg #[.int .i64 0, .int .i64 0, .string ⟨#[]⟩, .slice none 0 0, .slice none 0 0], .int .i64 1]) (by simp [results, Tryz.results19, go_sem, t0, t1, t2, t3, t4]) rfl ?_
  exact retT_put H1.out.below (by omega) H1.out.r.lt (lies_null _ _)
set_option maxHeartbeats 4000000 in
set_option maxRecDepth 100000 in
theorem rmrg_inv2 (v u : V) (cs ds : List Value) (w : World) (S : Nat → Prop) (hS : ∀ b, S b → b < w.heap.size) (h : Lies w S v cs) (h' : Lies w S u ds) (hv : valid v = true) (hu : valid u = false) :
    Calls Tryz.prog 19 #[.agg cs.toArray, .agg ds.toArray] w (RetT S vnull 1 w) := by
  have HV : Hid (∀ W, Below w.heap.size w W → Calls Tryz.prog 112 #[.agg cs.toArray] W fun e w' => e = .returned (.bool true) ∧ Below W.heap.size W w') := Lib.hid fun W hW => by
    have h9 := rvalid_any v cs W (below_lies hW (h.move fun b hb => ⟨hS b hb, rfl⟩))
    rw [valid_same, hv] at h9
    exact h9
  have HU : Hid (∀ W, Below w.heap.size w W → Calls Tryz.prog 112 #[.agg ds.toArray] W fun e w' => e = .returned (.bool false) ∧ Below W.heap.size W w') := Lib.hid fun W hW => by
    have h9 := rvalid_any u ds W (below_lies hW (h'.move fun b hb => ⟨hS b hb, rfl⟩))
    rw [valid_same, hu] at h9
    exact h9
  obtain ⟨k, n, s, ks, es⟩ := v
  obtain ⟨A, a, B, b, xs, rfl, _⟩ := lies_open h
  obtain ⟨k2, n2, s2, ks2, es2⟩ := u
  obtain ⟨A2, a2, B2, b2, xs2, rfl, _⟩ := lies_open h'
  clear h h' hv hu
  generalize ks.length = l1 at *
  generalize es.length = l2 at *
  generalize ks2.length = l3 at *
  generalize es2.length = l4 at *
  show Calls _ _ #[.agg #[.int .i64 k, .int .i64 n, .string s, .slice A l1 a, .slice B l2 b], .agg #[.int .i64 k2, .int .i64 n2, .string s2, .slice A2 l3 a2, .slice B2 l4 b2]] w _
  have H0 := Lib.hid (B3.start w #[.int .i64 k, .int .i64 n, .string s, .slice A l1 a, .slice B l2 b] #[.int .i64 k2, .int .i64 n2, .string s2, .slice A2 l3 a2, .slice B2 l4 b2])
  go_enter Tryz.func19, Tryz.ntmps19
  go_wp2_with fail
  refine (HV.out _ H0.out.below).mono ?_
  rintro e1 w1 ⟨rfl, hb1⟩
  have H1 := Lib.hid (H0.out.next hb1)
  clear hb1
  obtain ⟨y0, y1, y2, y3, y4⟩ := box5 H1.out.y
  go_wp2_with fail
  refine (HU.out _ H1.out.below).mono ?_
  rintro e2 w2 ⟨rfl, hb2⟩
  have H2 := Lib.hid (H1.out.next hb2)
  clear hb2
  clear y0 y1 y2 y3 y4
  obtain ⟨t0, t1, t2, t3, t4⟩ := box5 H2.out.r
  have z0 := H2.out.r.free 0
  have z1 := H2.out.r.free 1
  have z2 := H2.out.r.free 2
  have z3 := H2.out.r.free 3
  have z4 := H2.out.r.free 4
  go_wp2_with fail
  refine bodyPost_ret (v := .tuple #[.agg #[.int .i64 0, .int .i64 0, .string ⟨#[]⟩, .slice none 0 0, .slice none 0 0], .int .i64 1]) (by simp [results, Tryz.results19, go_sem, t0, t1, t2, t3, t4]) rfl ?_
  exact retT_put H2.out.below (by omega) H2.out.r.lt (lies_null _ _)
set_option maxHeartbeats 4000000 in
set_option maxRecDepth 100000 in
theorem rmrg_type (v u : V) (cs ds : List Value) (w : World) (S : Nat → Prop) (hS : ∀ b, S b → b < w.heap.size) (h : Lies w S v cs) (h' : Lies w S u ds) (hv : valid v = true) (hu : valid u = true) (h66 : ¬ (kd v = 6 ∧ kd u = 6)) :
    Calls Tryz.prog 19 #[.agg cs.toArray, .agg ds.toArray] w (RetT S vnull 12 w) := by
  have HV : Hid (∀ W, Below w.heap.size w W → Calls Tryz.prog 112 #[.agg cs.toArray] W fun e w' => e = .returned (.bool true) ∧ Below W.heap.size W w') := Lib.hid fun W hW => by
    have h9 := rvalid_any v cs W (below_lies hW (h.move fun b hb => ⟨hS b hb, rfl⟩))
    rw [valid_same, hv] at h9
    exact h9
  have HU : Hid (∀ W, Below w.heap.size w W → Calls Tryz.prog 112 #[.agg ds.toArray] W fun e w' => e = .returned (.bool true) ∧ Below W.heap.size W w') := Lib.hid fun W hW => by
    have h9 := rvalid_any u ds W (below_lies hW (h'.move fun b hb => ⟨hS b hb, rfl⟩))
    rw [valid_same, hu] at h9
    exact h9
  obtain ⟨k, n, s, ks, es⟩ := v
  obtain ⟨A, a, B, b, xs, rfl, _⟩ := lies_open h
  obtain ⟨k2, n2, s2, ks2, es2⟩ := u
  obtain ⟨A2, a2, B2, b2, xs2, rfl, _⟩ := lies_open h'
  have q6 : ((k == 6) && (k2 == 6)) = false := by have h9 : ¬ (k = 6 ∧ k2 = 6) := h66; simpa using h9
  clear h h' hv hu h66
  generalize ks.length = l1 at *
  generalize es.length = l2 at *
  generalize ks2.length = l3 at *
  generalize es2.length = l4 at *
  have HB6 : Hid (∀ W : World, Calls Tryz.prog 121 #[.agg #[.int .i64 k, .int .i64 n, .string s, .slice A l1 a, .slice B l2 b], .agg #[.int .i64 k2, .int .i64 n2, .string s2, .slice A2 l3 a2, .slice B2 l4 b2], .int .i64 6] W fun e w' => e = .returned (.bool false) ∧ Below W.heap.size W w') := Lib.hid fun W => rboth_is 6 _ _ false q6 n n2 s s2 A B A2 B2 l1 a l2 b l3 a2 l4 b2 W
  clear q6
  show Calls _ _ #[.agg #[.int .i64 k, .int .i64 n, .string s, .slice A l1 a, .slice B l2 b], .agg #[.int .i64 k2, .int .i64 n2, .string s2, .slice A2 l3 a2, .slice B2 l4 b2]] w _
  have H0 := Lib.hid (B3.start w #[.int .i64 k, .int .i64 n, .string s, .slice A l1 a, .slice B l2 b] #[.int .i64 k2, .int .i64 n2, .string s2, .slice A2 l3 a2, .slice B2 l4 b2])
  go_enter Tryz.func19, Tryz.ntmps19
  go_wp2_with fail
  refine (HV.out _ H0.out.below).mono ?_
  rintro e1 w1 ⟨rfl, hb1⟩
  have H1 := Lib.hid (H0.out.next hb1)
  clear hb1
  obtain ⟨y0, y1, y2, y3, y4⟩ := box5 H1.out.y
  go_wp2_with fail
  refine (HU.out _ H1.out.below).mono ?_
  rintro e2 w2 ⟨rfl, hb2⟩
  have H2 := Lib.hid (H1.out.next hb2)
  clear hb2
  clear y0 y1 y2 y3 y4
  obtain ⟨x0, x1, x2, x3, x4⟩ := box5 H2.out.x
  obtain ⟨y0, y1, y2, y3, y4⟩ := box5 H2.out.y
  go_wp2_with fail
  refine (HB6.out _).mono ?_
  rintro e3 w3 ⟨rfl, hb3⟩
  have H3 := Lib.hid (H2.out.next hb3)
  clear hb3
  clear x0 x1 x2 x3 x4 y0 y1 y2 y3 y4
  obtain ⟨t0, t1, t2, t3, t4⟩ := box5 H3.out.r
  have z0 := H3.out.r.free 0
  have z1 := H3.out.r.free 1
  have z2 := H3.out.r.free 2
  have z3 := H3.out.r.free 3
  have z4 := H3.out.r.free 4
  go_wp2_with fail
  refine bodyPost_ret (v := .tuple #[.agg #[.int .i64 0, .int .i64 0, .string ⟨#[]⟩, .slice none 0 0, .slice none 0 0], .int .i64 12]) (by simp [results, Tryz.results19, go_sem, t0, t1, t2, t3, t4]) rfl ?_
  exact retT_put H3.out.below (by omega) H3.out.r.lt (lies_null _ _)
set_option maxHeartbeats 4000000 in
set_option maxRecDepth 100000 in
theorem rmrg_ok (v u : V) (cs ds : List Value) (w : World) (S : Nat → Prop) (hS : ∀ b, S b → b < w.heap.size) (h : Lies w S v cs) (h' : Lies w S u ds) (hv : valid v = true) (hu : valid u = true) (h6 : kd v = 6) (h62 : kd u = 6) :
    Calls Tryz.prog 19 #[.agg cs.toArray, .agg ds.toArray] w (RetT S (finV (mgV v u)) (finE (mgV v u)) w) := by
  have HV : Hid (∀ W, Below w.heap.size w W → Calls Tryz.prog 112 #[.agg cs.toArray] W fun e w' => e = .returned (.bool true) ∧ Below W.heap.size W w') := Lib.hid fun W hW => by
    have h9 := rvalid_any v cs W (below_lies hW (h.move fun b hb => ⟨hS b hb, rfl⟩))
    rw [valid_same, hv] at h9
    exact h9
  have HU : Hid (∀ W, Below w.heap.size w W → Calls Tryz.prog 112 #[.agg ds.toArray] W fun e w' => e = .returned (.bool true) ∧ Below W.heap.size W w') := Lib.hid fun W hW => by
    have h9 := rvalid_any u ds W (below_lies hW (h'.move fun b hb => ⟨hS b hb, rfl⟩))
    rw [valid_same, hu] at h9
    exact h9
  have HC := Lib.hid (fun W (hW : Below w.heap.size w W) => mg_open (rmerge_any u v cs ds W S (fun b hb => Nat.lt_of_lt_of_le (hS b hb) hW.size) (h.move fun b hb => ⟨hb, hW.block b (hS b hb)⟩) (h'.move fun b hb => ⟨hb, hW.block b (hS b hb)⟩) hv hu h6 h62))
  generalize mgV v u = M at HC ⊢
  obtain ⟨k, n, s, ks, es⟩ := v
  obtain ⟨A, a, B, b, xs, rfl, _⟩ := lies_open h
  obtain ⟨k2, n2, s2, ks2, es2⟩ := u
  obtain ⟨A2, a2, B2, b2, xs2, rfl, _⟩ := lies_open h'
  obtain rfl : k = 6 := h6
  obtain rfl : k2 = 6 := h62
  clear h h' hv hu
  generalize ks.length = l1 at *
  generalize es.length = l2 at *
  generalize ks2.length = l3 at *
  generalize es2.length = l4 at *
  have HB6 : Hid (∀ W : World, Calls Tryz.prog 121 #[.agg #[.int .i64 6, .int .i64 n, .string s, .slice A l1 a, .slice B l2 b], .agg #[.int .i64 6, .int .i64 n2, .string s2, .slice A2 l3 a2, .slice B2 l4 b2], .int .i64 6] W fun e w' => e = .returned (.bool true) ∧ Below W.heap.size W w') := Lib.hid fun W => rboth_is 6 _ _ true (by decide) n n2 s s2 A B A2 B2 l1 a l2 b l3 a2 l4 b2 W
  show Calls _ _ #[.agg #[.int .i64 6, .int .i64 n, .string s, .slice A l1 a, .slice B l2 b], .agg #[.int .i64 6, .int .i64 n2, .string s2, .slice A2 l3 a2, .slice B2 l4 b2]] w _
  have H0 := Lib.hid (B3.start w #[.int .i64 6, .int .i64 n, .string s, .slice A l1 a, .slice B l2 b] #[.int .i64 6, .int .i64 n2, .string s2, .slice A2 l3 a2, .slice B2 l4 b2])
  go_enter Tryz.func19, Tryz.ntmps19
  go_wp2_with fail
  refine (HV.out _ H0.out.below).mono ?_
  rintro e1 w1 ⟨rfl, hb1⟩
  have H1 := Lib.hid (H0.out.next hb1)
  clear hb1
  obtain ⟨y0, y1, y2, y3, y4⟩ := box5 H1.out.y
  go_wp2_with fail
  refine (HU.out _ H1.out.below).mono ?_
  rintro e2 w2 ⟨rfl, hb2⟩
  have H2 := Lib.hid (H1.out.next hb2)
  clear hb2
  clear y0 y1 y2 y3 y4
  obtain ⟨x0, x1, x2, x3, x4⟩ := box5 H2.out.x
  obtain ⟨y0, y1, y2, y3, y4⟩ := box5 H2.out.y
  go_wp2_with fail
  refine (HB6.out _).mono ?_
  rintro e3 w3 ⟨rfl, hb3⟩
  have H3 := Lib.hid (H2.out.next hb3)
  clear hb3
  clear x0 x1 x2 x3 x4 y0 y1 y2 y3 y4
  obtain ⟨x0, x1, x2, x3, x4⟩ := box5 H3.out.x
  obtain ⟨y0, y1, y2, y3, y4⟩ := box5 H3.out.y
  go_wp2_with fail
  refine (HC.out _ H3.out.below).mono ?_
  rintro e4 w4 ⟨hb4, mk, mn, ms, mks, mes, MA, ma, MC, mc, rfl, hl4⟩
  have H4 := Lib.hid (H3.out.next hb4)
  have hsw4 := H3.out.r.lt
  have hsb4 := hb4.size
  have HF := Lib.hid (retS_open (fit_any (fun b => S b ∨ (w3.heap.size ≤ b ∧ b < w4.heap.size)) M _ w4 hl4 (fun b hb => by rcases hb with h9 | h9; (· have := hS b h9; have := H4.out.below.size; omega); exact h9.2)))
  clear hb4 hl4
  clear x0 x1 x2 x3 x4 y0 y1 y2 y3 y4
  go_wp2_with fail
  refine HF.out.mono ?_
  rintro e5 w5 ⟨rk, rn, rs, rks, res, RA, ra, RC, rc, hrv, rfl, hb5, hl5⟩
  have H5 := Lib.hid (H4.out.next hb5)
  have HL := Lib.hid hl5
  have hsb5 := hb5.size
  clear hb5 hl5 hrv HF
  obtain ⟨t0, t1, t2, t3, t4⟩ := box5 H5.out.r
  have z0 := H5.out.r.free 0
  have z1 := H5.out.r.free 1
  have z2 := H5.out.r.free 2
  have z3 := H5.out.r.free 3
  have z4 := H5.out.r.free 4
  go_wp2_with fail
  refine bodyPost_ret (v := .tuple #[.agg #[.int .i64 rk, .int .i64 rn, .string rs, .slice RA rks.length ra, .slice RC res.length rc], .int .i64 (finE M)]) (by simp [results, Tryz.results19, go_sem, t0, t1, t2, t3, t4]) rfl ?_
  refine retT_put H5.out.below (by omega) H5.out.r.lt (HL.out.move fun b hb => ⟨?_, rfl⟩)
  rcases hb with h9 | h9
  · have := hS b h9
    exact ⟨.inl h9, by omega⟩
  · exact ⟨.inr ⟨by omega, by omega⟩, by omega⟩
theorem rmergeTop_any (v u : V) (cs ds : List Value) (w : World) (S : Nat → Prop) (hS : ∀ b, S b → b < w.heap.size) (h : Lies w S v cs) (h' : Lies w S u ds) : Calls Tryz.prog 19 #[.agg cs.toArray, .agg ds.toArray] w (RetT S (mergeR v u).1 (mergeR v u).2 w) := by
  unfold mergeR
  cases hv : valid v with
  | false => exact rmrg_inv1 v u cs ds w S hS h h' hv
  | true =>
    cases hu : valid u with
    | false => exact rmrg_inv2 v u cs ds w S hS h h' hv hu
    | true =>
      rw [if_pos rfl, if_pos rfl]
      by_cases h6 : kd v = 6
      · by_cases h62 : kd u = 6
        · rw [if_pos h6, if_pos h62, mrg_lim u v hv hu h6 h62]
          exact rmrg_ok v u cs ds w S hS h h' hv hu h6 h62
        · rw [if_pos h6, if_neg h62]
          exact rmrg_type v u cs ds w S hS h h' hv hu fun q => h62 q.2
      · rw [if_neg h6]
        exact rmrg_type v u cs ds w S hS h h' hv hu fun q => h6 q.1
set_option maxHeartbeats 4000000 in
set_option maxRecDepth 100000 in
theorem rneg_inv (v : V) (cs : List Value) (w : World) (S : Nat → Prop) (hS : ∀ b, S b → b < w.heap.size) (h : Lies w S v cs) (hv : valid v = false) :
    Calls Tryz.prog 21 #[.agg cs.toArray] w (RetT S vnull 1 w) := by
  have HV : Hid (∀ W, Below w.heap.size w W → Calls Tryz.prog 112 #[.agg cs.toArray] W fun e w' => e = .returned (.bool false) ∧ Below W.heap.size W w') := Lib.hid fun W hW => by
    have h9 := rvalid_any v cs W (below_lies hW (h.move fun b hb => ⟨hS b hb, rfl⟩))
    rw [valid_same, hv] at h9
    exact h9
  obtain ⟨k, n, s, ks, es⟩ := v
  obtain ⟨A, a, B, b, xs, rfl, _⟩ := lies_open h
  clear h hv
  generalize ks.length = l1 at *
  generalize es.length = l2 at *
  show Calls _ _ #[.agg #[.int .i64 k, .int .i64 n, .string s, .slice A l1 a, .slice B l2 b]] w _
  have H0 := Lib.hid (B2.start w #[.int .i64 k, .int .i64 n, .string s, .slice A l1 a, .slice B l2 b])
  go_enter Tryz.func21, Tryz.ntmps21
  go_wp2_with fail
  refine (HV.out _ H0.out.below).mono ?_
  rintro e1 w1 ⟨rfl, hb1⟩
  have H1 := Lib.hid (H0.out.next hb1)
  clear hb1
  obtain ⟨t0, t1, t2, t3, t4⟩ := box5 H1.out.r
  have z0 := H1.out.r.free 0
  have z1 := H1.out.r.free 1
  have z2 := H1.out.r.free 2
  have z3 := H1.out.r.free 3
  have z4 := H1.out.r.free 4
  go_wp2_with fail
  refine bodyPost_ret (v := .tuple #[.agg #[.int .i64 0, .int .i64 0, .string ⟨#[]⟩, .slice none 0 0, .slice none 0 0], .int .i64 1]) (by simp [results, Tryz.results21, go_sem, t0, t1, t2, t3, t4]) rfl ?_
  exact retT_put H1.out.below (by omega) H1.out.r.lt (lies_null _ _)
set_option maxHeartbeats 4000000 in
set_option maxRecDepth 100000 in
theorem rneg_type (v : V) (cs : List Value) (w : World) (S : Nat → Prop) (hS : ∀ b, S b → b < w.heap.size) (h : Lies w S v cs) (hv : valid v = true) (hk : ¬ kd v = 3) :
    Calls Tryz.prog 21 #[.agg cs.toArray] w (RetT S vnull 12 w) := by
  have HV : Hid (∀ W, Below w.heap.size w W → Calls Tryz.prog 112 #[.agg cs.toArray] W fun e w' => e = .returned (.bool true) ∧ Below W.heap.size W w') := Lib.hid fun W hW => by
    have h9 := rvalid_any v cs W (below_lies hW (h.move fun b hb => ⟨hS b hb, rfl⟩))
    rw [valid_same, hv] at h9
    exact h9
  obtain ⟨k, n, s, ks, es⟩ := v
  obtain ⟨A, a, B, b, xs, rfl, _⟩ := lies_open h
  have q3 : (k == 3) = false := by have h9 : ¬ k = 3 := hk; simpa using h9
  have q4 : (k != 3) = true := by have h9 : ¬ k = 3 := hk; simp [h9]
  clear h hv hk
  generalize ks.length = l1 at *
  generalize es.length = l2 at *
  show Calls _ _ #[.agg #[.int .i64 k, .int .i64 n, .string s, .slice A l1 a, .slice B l2 b]] w _
  have H0 := Lib.hid (B2.start w #[.int .i64 k, .int .i64 n, .string s, .slice A l1 a, .slice B l2 b])
  go_enter Tryz.func21, Tryz.ntmps21
  go_wp2_with fail
  refine (HV.out _ H0.out.below).mono ?_
  rintro e1 w1 ⟨rfl, hb1⟩
  have H1 := Lib.hid (H0.out.next hb1)
  clear hb1
  obtain ⟨x0, x1, x2, x3, x4⟩ := box5 H1.out.x
  obtain ⟨t0, t1, t2, t3, t4⟩ := box5 H1.out.r
  have z0 := H1.out.r.free 0
  have z1 := H1.out.r.free 1
  have z2 := H1.out.r.free 2
  have z3 := H1.out.r.free 3
  have z4 := H1.out.r.free 4
  go_wp2_with fail
  refine bodyPost_ret (v := .tuple #[.agg #[.int .i64 0, .int .i64 0, .string ⟨#[]⟩, .slice none 0 0, .slice none 0 0], .int .i64 12]) (by simp [results, Tryz.results21, go_sem, t0, t1, t2, t3, t4]) rfl ?_
  exact retT_put H1.out.below (by omega) H1.out.r.lt (lies_null _ _)
set_option maxHeartbeats 4000000 in
set_option maxRecDepth 100000 in
theorem rneg_num (v : V) (cs : List Value) (w : World) (S : Nat → Prop) (hS : ∀ b, S b → b < w.heap.size) (h : Lies w S v cs) (hv : valid v = true) (hk : kd v = 3) :
    Calls Tryz.prog 21 #[.agg cs.toArray] w (RetT S (numV (wrap64 (-nm v))) 0 w) := by
  have HV : Hid (∀ W, Below w.heap.size w W → Calls Tryz.prog 112 #[.agg cs.toArray] W fun e w' => e = .returned (.bool true) ∧ Below W.heap.size W w') := Lib.hid fun W hW => by
    have h9 := rvalid_any v cs W (below_lies hW (h.move fun b hb => ⟨hS b hb, rfl⟩))
    rw [valid_same, hv] at h9
    exact h9
  have HN := Lib.hid (fun (n : Int) W => rnum_any n W)
  obtain ⟨k, n, s, ks, es⟩ := v
  obtain ⟨A, a, B, b, xs, rfl, _⟩ := lies_open h
  obtain rfl : k = 3 := hk
  have e9 : nm (V.mk 3 n s ks es) = n := rfl
  rw [e9, ← w64_neg]
  clear h hv e9
  generalize ks.length = l1 at *
  generalize es.length = l2 at *
  show Calls _ _ #[.agg #[.int .i64 3, .int .i64 n, .string s, .slice A l1 a, .slice B l2 b]] w _
  have H0 := Lib.hid (B2.start w #[.int .i64 3, .int .i64 n, .string s, .slice A l1 a, .slice B l2 b])
  go_enter Tryz.func21, Tryz.ntmps21
  go_wp2_with fail
  refine (HV.out _ H0.out.below).mono ?_
  rintro e1 w1 ⟨rfl, hb1⟩
  have H1 := Lib.hid (H0.out.next hb1)
  clear hb1
  obtain ⟨x0, x1, x2, x3, x4⟩ := box5 H1.out.x
  go_wp2_with fail
  refine (HN.out _ _).mono ?_
  rintro e2 w2 ⟨rfl, hb2⟩
  have H2 := Lib.hid (H1.out.next hb2)
  clear hb2
  clear x0 x1 x2 x3 x4
  obtain ⟨t0, t1, t2, t3, t4⟩ := box5 H2.out.r
  have z0 := H2.out.r.free 0
  have z1 := H2.out.r.free 1
  have z2 := H2.out.r.free 2
  have z3 := H2.out.r.free 3
  have z4 := H2.out.r.free 4
  go_wp2_with fail
  refine bodyPost_ret (v := .tuple #[.agg #[.int .i64 3, .int .i64 (wrap64 (IntKind.u64.wrap (-IntKind.u64.wrap n))), .string ⟨#[]⟩, .slice none 0 0, .slice none 0 0], .int .i64 0]) (by simp [results, Tryz.results21, go_sem, t0, t1, t2, t3, t4]) rfl ?_
  exact retT_put H2.out.below (by omega) H2.out.r.lt (lies_numv _ _ _)
theorem rneg_any (v : V) (cs : List Value) (w : World) (S : Nat → Prop) (hS : ∀ b, S b → b < w.heap.size) (h : Lies w S v cs) : Calls Tryz.prog 21 #[.agg cs.toArray] w (RetT S (negR v).1 (negR v).2 w) := by
  unfold negR
  cases hv : valid v with
  | false => exact rneg_inv v cs w S hS h hv
  | true =>
    rw [if_pos rfl]
    by_cases hk : kd v = 3
    · rw [if_pos hk]
      exact rneg_num v cs w S hS h hv hk
    · rw [if_neg hk]
      exact rneg_type v cs w S hS h hv hk
theorem raddv_any (v u : V) (cs ds : List Value) (w : World) (S : Nat → Prop) (hS : ∀ b, S b → b < w.heap.size) (h : Lies w S v cs) (h' : Lies w S u ds) (hv : valid v = true) (hu : valid u = true) : Calls Tryz.prog 116 #[.agg cs.toArray, .agg ds.toArray] w (RetT S (sumR v u).1 (sumR v u).2 w) := by
  obtain ⟨k, n, s, ks, es⟩ := v
  obtain ⟨k2, n2, s2, ks2, es2⟩ := u
  have hv0 := h
  have hu0 := h'
  obtain ⟨A, a, B, b, xs, rfl, _, hB0, _, _, hA, hB, hL⟩ := lies_open h
  obtain ⟨A2, a2, B2, b2', ys, rfl, _, hB20, _, _, hA2, hB2, hL2⟩ := lies_open h'
  have hp := valid_parts hv
  have hp2 := valid_parts hu
  by_cases k0 : k = 0
  · subst k0
    have hs : sumR (V.mk 0 n s ks es) (V.mk k2 n2 s2 ks2 es2) = (V.mk k2 n2 s2 ks2 es2, 0) := sum_null_left rfl
    rw [hs]
    exact radd_left _ k2 n n2 s s2 A B A2 B2 _ a _ b _ a2 _ b2' w S hS hu0
  by_cases k20 : k2 = 0
  · subst k20
    have hs : sumR (V.mk k n s ks es) (V.mk 0 n2 s2 ks2 es2) = (V.mk k n s ks es, 0) := sum_null_right hv hu rfl
    rw [hs]
    exact radd_right _ k k0 n n2 s s2 A B A2 B2 _ a _ b _ a2 _ b2' w S hS hv0
  have hsum : sumR (V.mk k n s ks es) (V.mk k2 n2 s2 ks2 es2) = if k = 3 ∧ k2 = 3 then (numV (wrap64 (n + n2)), 0) else if k = 4 ∧ k2 = 4 then lim (strV (s ++ s2)) else if k = 5 ∧ k2 = 5 then lim (arrV (es ++ es2)) else if k = 6 ∧ k2 = 6 then lim (objL (putL (ks.zip es) (ks2.zip es2))) else (vnull, 12) := by
    show (if k = 0 then _ else if k2 = 0 then _ else _) = _
    rw [if_neg k0, if_neg k20]
    rfl
  rw [hsum]
  clear hsum
  by_cases c3 : k = 3 ∧ k2 = 3
  · rw [if_pos c3]
    obtain ⟨rfl, rfl⟩ := c3
    exact radd_num n n2 s s2 A B A2 B2 _ a _ b _ a2 _ b2' w S hS
  rw [if_neg c3]
  by_cases c4 : k = 4 ∧ k2 = 4
  · rw [if_pos c4]
    obtain ⟨rfl, rfl⟩ := c4
    exact radd_str n n2 s s2 A B A2 B2 _ a _ b _ a2 _ b2' w S hS hp.1 hp2.1
  rw [if_neg c4]
  have h1 := (valid_keys hv).2.2.2
  have h2 := (valid_keys hu).2.2.2
  by_cases c5 : k = 5 ∧ k2 = 5
  · rw [if_pos c5]
    obtain ⟨rfl, rfl⟩ := c5
    exact radd_arr es es2 xs ys n n2 s s2 A B A2 B2 _ a b _ a2 b2' w S hS hB hL hB2 hL2 (by omega) (by omega) hB0 hB20
  rw [if_neg c5]
  by_cases c6 : k = 6 ∧ k2 = 6
  · rw [if_pos c6]
    obtain ⟨rfl, rfl⟩ := c6
    rcases valid_shape hv with ⟨hk, _⟩ | ⟨hk, _⟩ | ⟨hk, _⟩ | ⟨hk, _⟩ | ⟨_, rfl, rfl, _⟩
    · omega
    · omega
    · omega
    · omega
    rcases valid_shape hu with ⟨hk, _⟩ | ⟨hk, _⟩ | ⟨hk, _⟩ | ⟨hk, _⟩ | ⟨_, rfl, rfl, _⟩
    · omega
    · omega
    · omega
    · omega
    exact radd_obj ks ks2 es es2 _ _ w S hS hv0 hu0 hv hu
  rw [if_neg c6]
  exact radd_type k k2 k0 k20 (fun c hc => by rcases hc with rfl | rfl | rfl | rfl <;> assumption) n n2 s s2 A B A2 B2 _ a _ b _ a2 _ b2' w S
theorem rbin_any (op : ByteArray) (v u : V) (cs ds : List Value) (w : World) (S : Nat → Prop) (hS : ∀ b, S b → b < w.heap.size) (h : Lies w S v cs) (h' : Lies w S u ds) : Calls Tryz.prog 15 #[.string op, .agg cs.toArray, .agg ds.toArray] w (RetT S (binR op v u).1 (binR op v u).2 w) := by
  cases hv : valid v with
  | false =>
    rw [binR_inv (by rw [hv]; rfl)]
    exact rbin_inv1 op v u cs ds w S hS h h' hv
  | true =>
    cases hu : valid u with
    | false =>
      rw [binR_inv (by rw [hv, hu]; rfl)]
      exact rbin_inv2 op v u cs ds w S hS h h' hv hu
    | true =>
      have hq : (valid v && valid u) = true := by rw [hv, hu]; rfl
      have hcq : cmpV v u = vcmp v u := by unfold cmpV; rw [if_pos hv, if_pos hu]
      have hS' : ∀ W, Below w.heap.size w W → ∀ b, S b → b < W.heap.size := fun W hW b hb => Nat.lt_of_lt_of_le (hS b hb) hW.size
      have hl : ∀ W, Below w.heap.size w W → Lies W S v cs := fun W hW => h.move fun b hb => ⟨hb, hW.block b (hS b hb)⟩
      have hl' : ∀ W, Below w.heap.size w W → Lies W S u ds := fun W hW => h'.move fun b hb => ⟨hb, hW.block b (hS b hb)⟩
      rcases op_cases op with rfl | rfl | rfl | rfl | rfl | rfl | rfl | rfl | rfl | rfl | rfl | hno
      · rw [binR_0 hq]; exact rbin_0 v u cs ds w S hS h h' hv hu _ _ fun W hW => raddv_any v u cs ds W S (hS' W hW) (hl W hW) (hl' W hW) hv hu
      · rw [binR_1 hq]; exact rbin_1 v u cs ds w S hS h h' hv hu _ _ fun W hW => rsubv_any v u cs ds W S (hS' W hW) (hl W hW) (hl' W hW) hv hu
      · rw [binR_2 hq]; exact rbin_2 v u cs ds w S hS h h' hv hu _ _ fun W hW => rmulv_any v u cs ds W S (hS' W hW) (hl W hW) (hl' W hW) hv hu fun h6 h62 W2 hW2 => rmerge_any u v cs ds W2 S (hS' W2 (chain hW hW2)) (hl W2 (chain hW hW2)) (hl' W2 (chain hW hW2)) hv hu h6 h62
      · rw [binR_3 hq]; exact rbin_3 v u cs ds w S hS h h' hv hu _ _ fun W hW => rdivv_any v u cs ds W S (hS' W hW) (hl W hW) (hl' W hW) hv hu
      · rw [binR_4 hq]; exact rbin_4 v u cs ds w S hS h h' hv hu _ _ fun W hW => rremv_any v u cs ds W S (hS' W hW) (hl W hW) (hl' W hW) hv hu
      · rw [binR_5 hq, hcq]; exact rbin_5 v u cs ds w S hS h h' hv hu
      · rw [binR_6 hq, hcq]; exact rbin_6 v u cs ds w S hS h h' hv hu
      · rw [binR_7 hq, hcq]; exact rbin_7 v u cs ds w S hS h h' hv hu
      · rw [binR_8 hq, hcq]; exact rbin_8 v u cs ds w S hS h h' hv hu
      · rw [binR_9 hq, hcq]; exact rbin_9 v u cs ds w S hS h h' hv hu
      · rw [binR_10 hq, hcq]; exact rbin_10 v u cs ds w S hS h h' hv hu
      · rw [binR_no hno hq]; exact rbin_no op v u cs ds w S hS h h' hno hv hu
end Go.Proofs.YtgdnkankleoaoaaGreatDoor
