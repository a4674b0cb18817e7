/- arith.multiply on any two valid values, and Binary at "*". arith.Merge. Merging a value with itself, plain. -/
import Derived.Test.YtgdnkankleoaoaaGreatDoorA39
import Derived.Test.YtgdnkankleoaoaaGreatDoorA37
import Derived.Test.YtgdnkankleoaoaaGreatDoorA34
import Derived.Test.YtgdnkankleoaoaaGreatDoorA36
set_option linter.unusedVariables false
set_option linter.unusedSimpArgs false
namespace Go.Proofs.YtgdnkankleoaoaaGreatDoor
open Go.RowKit Go.Sort
set_option maxHeartbeats 4000000 in
set_option maxRecDepth 100000 in
theorem mul_num (n n2 : Int) (s s2 : ByteArray) (A B A2 B2 : Option Addr) (la a lb b la2 a2 lb2 b2 : Nat) (w : World) :
    Calls Tryz.prog 108 #[.agg #[.int .i64 3, .int .i64 n, .string s, .slice A la a, .slice B lb b], .agg #[.int .i64 3, .int .i64 n2, .string s2, .slice A2 la2 a2, .slice B2 lb2 b2]] w (RetPost (numV (wrap64 (n * n2))) 0 w) := by
  have EQ := eq_pair
  have hn := Lib.hid (fun (n : Int) W => num_any n W)
  have H0 := Lib.hid (B3.start w #[.int .i64 3, .int .i64 n, .string s, .slice A la a, .slice B lb b] #[.int .i64 3, .int .i64 n2, .string s2, .slice A2 la2 a2, .slice B2 lb2 b2])
  go_enter Tryz.func108, Tryz.ntmps108
  go_wp2_with fail
  refine (hn.out _ _).mono ?_
  rintro e1 w1 ⟨rfl, hb1⟩
  have H1 := Lib.hid (H0.out.next hb1)
  obtain ⟨t0, t1, t2, t3, t4⟩ := box5 H1.out.r
  have z0 := H1.out.r.free 0
  have z1 := H1.out.r.free 1
  have z2 := H1.out.r.free 2
  have z3 := H1.out.r.free 3
  have z4 := H1.out.r.free 4
  clear hb1
  go_wp2_with fail
  refine bodyPost_ret (v := .tuple #[.agg #[.int .i64 3, .int .i64 (wrap64 (n * n2)), .string ⟨#[]⟩, .slice none 0 0, .slice none 0 0], .int .i64 0]) (by simp [results, Tryz.results108, go_sem, t0, t1, t2, t3, t4]) rfl ?_
  exact ret_put H1.out.below (by omega) H1.out.r.lt (lies_numv _ _ _)
set_option maxHeartbeats 4000000 in
set_option maxRecDepth 100000 in
theorem mul_obj (n n2 : Int) (s s2 : ByteArray) (A B A2 B2 : Option Addr) (la a lb b la2 a2 lb2 b2 : Nat) (w : World) (r : V) (er : Int)
    (hc : ∀ W, Below w.heap.size w W → Calls Tryz.prog 120 #[.agg #[.int .i64 6, .int .i64 n, .string s, .slice A la a, .slice B lb b], .agg #[.int .i64 6, .int .i64 n2, .string s2, .slice A2 la2 a2, .slice B2 lb2 b2]] W (RetPost r er W)) :
    Calls Tryz.prog 108 #[.agg #[.int .i64 6, .int .i64 n, .string s, .slice A la a, .slice B lb b], .agg #[.int .i64 6, .int .i64 n2, .string s2, .slice A2 la2 a2, .slice B2 lb2 b2]] w (RetPost r er w) := by
  have EQ := eq_pair
  have HC := Lib.hid (fun W hW => ret_open (hc W hW))
  have H0 := Lib.hid (B3.start w #[.int .i64 6, .int .i64 n, .string s, .slice A la a, .slice B lb b] #[.int .i64 6, .int .i64 n2, .string s2, .slice A2 la2 a2, .slice B2 lb2 b2])
  clear hc
  go_enter Tryz.func108, Tryz.ntmps108
  go_wp2_with fail
  refine (HC.out _ H0.out.below).mono ?_
  rintro e2 w2 ⟨rk, rn, rs, rks, res, RA, ra, RC, rc, hrv, rfl, hb2, hl2⟩
  have H2 := Lib.hid (H0.out.next hb2)
  have HL := Lib.hid hl2
  have hs2 := H0.out.r.lt
  have hs3 := H0.out.below.size
  clear hb2 hl2 hrv
  obtain ⟨t0, t1, t2, t3, t4⟩ := box5 H2.out.r
  have z0 := H2.out.r.free 0
  have z1 := H2.out.r.free 1
  have z2 := H2.out.r.free 2
  have z3 := H2.out.r.free 3
  have z4 := H2.out.r.free 4
  go_wp2_with fail
  refine bodyPost_ret (v := .tuple #[.agg #[.int .i64 rk, .int .i64 rn, .string rs, .slice RA rks.length ra, .slice RC res.length rc], .int .i64 er]) (by simp [results, Tryz.results108, go_sem, t0, t1, t2, t3, t4]) rfl ?_
  exact ret_put H2.out.below (by omega) H2.out.r.lt (HL.out.move fun b hb => ⟨⟨by omega, hb.2, by omega⟩, rfl⟩)
set_option maxHeartbeats 4000000 in
set_option maxRecDepth 100000 in
theorem mul_type (k k2 : Int) (h1 : ¬ (k = 3 ∧ k2 = 3)) (h2 : ¬ (k = 4 ∧ k2 = 3)) (h3 : ¬ (k = 3 ∧ k2 = 4)) (h4 : ¬ (k = 6 ∧ k2 = 6)) (n n2 : Int) (s s2 : ByteArray) (A B A2 B2 : Option Addr) (la a lb b la2 a2 lb2 b2 : Nat) (w : World) :
    Calls Tryz.prog 108 #[.agg #[.int .i64 k, .int .i64 n, .string s, .slice A la a, .slice B lb b], .agg #[.int .i64 k2, .int .i64 n2, .string s2, .slice A2 la2 a2, .slice B2 lb2 b2]] w (RetPost vnull 12 w) := by
  have q1 : (k == 3 && k2 == 3) = false := by simpa using h1
  have q2 : (k == 4 && k2 == 3) = false := by simpa using h2
  have q3 : (k == 3 && k2 == 4) = false := by simpa using h3
  have q4 : (k == 6 && k2 == 6) = false := by simpa using h4
  have EQ := eq_pair
  clear h1 h2 h3 h4
  have H1 := Lib.hid (B3.start w #[.int .i64 k, .int .i64 n, .string s, .slice A la a, .slice B lb b] #[.int .i64 k2, .int .i64 n2, .string s2, .slice A2 la2 a2, .slice B2 lb2 b2])
  go_enter Tryz.func108, Tryz.ntmps108
  go_wp2_with fail
  refine bodyPost_ret (v := .tuple #[.agg #[.int .i64 0, .int .i64 0, .string ⟨#[]⟩, .slice none 0 0, .slice none 0 0], .int .i64 12]) (by simp [results, Tryz.results108, go_sem]) rfl ?_
  exact ret_of (ds := [.int .i64 0, .int .i64 0, .string ⟨#[]⟩, .slice none 0 0, .slice none 0 0]) H1.out.below (lies_null _ _)
/-- The number of a value. -/
def nmb : V → Int | .mk _ n _ _ _ => n
/-- What '*' is on valid values. -/
def mulR (v u : V) : V × Int :=
  match v, u with
  | .mk k n s _ _, .mk k2 n2 s2 _ _ => if k = 3 ∧ k2 = 3 then (numV (wrap64 (n * n2)), 0) else if k = 4 ∧ k2 = 3 then repR s n2 else if k = 3 ∧ k2 = 4 then repR s2 n else if k = 6 ∧ k2 = 6 then mrg v u else (vnull, 12)
theorem mulv_any (v u : V) (cs ds : List Value) (w : World) (h : Lies w (· < w.heap.size) v cs) (h' : Lies w (· < w.heap.size) u ds) (hv : valid v = true) (hu : valid u = true) :
    Calls Tryz.prog 108 #[.agg cs.toArray, .agg ds.toArray] w (RetPost (mulR v u).1 (mulR v u).2 w) := by
  have hmg := fun (h6 : kd v = 6) (h62 : kd u = 6) W (hW : Below w.heap.size w W) => merge_any u v cs ds W (below_lies hW h) (below_lies hW h') hv hu h6 h62
  obtain ⟨k, n, s, ks, es⟩ := v
  obtain ⟨k2, n2, s2, ks2, es2⟩ := u
  obtain ⟨A, a, B, b, xs, rfl, _⟩ := lies_open h
  obtain ⟨A2, a2, B2, b2', ys, rfl, _⟩ := lies_open h'
  have hp := valid_parts hv
  have hp2 := valid_parts hu
  have hd : mulR (V.mk k n s ks es) (V.mk k2 n2 s2 ks2 es2) = if k = 3 ∧ k2 = 3 then (numV (wrap64 (n * n2)), 0) else if k = 4 ∧ k2 = 3 then repR s n2 else if k = 3 ∧ k2 = 4 then repR s2 n else if k = 6 ∧ k2 = 6 then mrg (V.mk k n s ks es) (V.mk k2 n2 s2 ks2 es2) else (vnull, 12) := rfl
  rw [hd]
  clear hd
  by_cases c1 : k = 3 ∧ k2 = 3
  · rw [if_pos c1]
    obtain ⟨rfl, rfl⟩ := c1
    exact mul_num n n2 s s2 A B A2 B2 _ a _ b _ a2 _ b2' w
  rw [if_neg c1]
  by_cases c2 : k = 4 ∧ k2 = 3
  · rw [if_pos c2]
    obtain ⟨rfl, rfl⟩ := c2
    exact mul_sn n n2 s s2 A B A2 B2 _ a _ b _ a2 _ b2' w _ _ fun W hW => repeat_any s n2 W hp.1
  rw [if_neg c2]
  by_cases c3 : k = 3 ∧ k2 = 4
  · rw [if_pos c3]
    obtain ⟨rfl, rfl⟩ := c3
    exact mul_ns n n2 s s2 A B A2 B2 _ a _ b _ a2 _ b2' w _ _ fun W hW => repeat_any s2 n W hp2.1
  rw [if_neg c3]
  by_cases c4 : k = 6 ∧ k2 = 6
  · rw [if_pos c4]
    obtain ⟨rfl, rfl⟩ := c4
    exact mul_obj n n2 s s2 A B A2 B2 _ a _ b _ a2 _ b2' w _ _ fun W hW => hmg rfl rfl W hW
  rw [if_neg c4]
  exact mul_type k k2 c1 c2 c3 c4 n n2 s s2 A B A2 B2 _ a _ b _ a2 _ b2' w
/-- Binary at "*". -/
theorem bin_mul (v u : V) (cs ds : List Value) (w : World) (h : Lies w (· < w.heap.size) v cs) (h' : Lies w (· < w.heap.size) u ds) (hv : valid v = true) (hu : valid u = true) :
    Calls Tryz.prog 14 #[.string ⟨#[42]⟩, .agg cs.toArray, .agg ds.toArray] w (RetPost (mulR v u).1 (mulR v u).2 w) :=
  bin_mulm v u cs ds w h h' hv hu _ _ fun W hW => mulv_any v u cs ds W (below_lies hW h) (below_lies hW h') hv hu
end Go.Proofs.YtgdnkankleoaoaaGreatDoor
namespace Go.Proofs.YtgdnkankleoaoaaGreatDoor
open Go.RowKit Go.Sort
/-- What Merge is. -/
def mergeR (v u : V) : V × Int := if valid v = true then (if valid u = true then (if kd v = 6 then (if kd u = 6 then mrg v u else (vnull, 12)) else (vnull, 12)) else (vnull, 1)) else (vnull, 1)
set_option maxHeartbeats 4000000 in
set_option maxRecDepth 100000 in
theorem mergeTop_any (v u : V) (cs ds : List Value) (w : World) (h : Lies w (· < w.heap.size) v cs) (h' : Lies w (· < w.heap.size) u ds) :
    Calls Tryz.prog 18 #[.agg cs.toArray, .agg ds.toArray] w (RetPost (mergeR v u).1 (mergeR v u).2 w) := by
  have HV := Lib.hid (fun W (hW : Below w.heap.size w W) => valid_any v cs W (below_lies hW h))
  have HU := Lib.hid (fun W (hW : Below w.heap.size w W) => valid_any u ds W (below_lies hW h'))
  have HM := Lib.hid (fun (hv : valid v = true) (hu : valid u = true) (h6 : kd v = 6) (h62 : kd u = 6) W (hW : Below w.heap.size w W) => ret_open (merge_any u v cs ds W (below_lies hW h) (below_lies hW h') hv hu h6 h62))
  unfold mergeR
  obtain ⟨k, n, s, ks, es⟩ := v
  obtain ⟨k2, n2, s2, ks2, es2⟩ := u
  obtain ⟨A, a, B, b, xs, rfl, _⟩ := lies_open h
  obtain ⟨A2, a2, B2, b2', ys, rfl, _⟩ := lies_open h'
  clear h h'
  have H0 := Lib.hid (B3.start w #[.int .i64 k, .int .i64 n, .string s, .slice A ks.length a, .slice B es.length b] #[.int .i64 k2, .int .i64 n2, .string s2, .slice A2 ks2.length a2, .slice B2 es2.length b2'])
  have hkd : kd (V.mk k n s ks es) = k := rfl
  have hkd2 : kd (V.mk k2 n2 s2 ks2 es2) = k2 := rfl
  rw [hkd, hkd2]
  rw [hkd, hkd2] at HM
  clear hkd hkd2
  by_cases hv : valid (V.mk k n s ks es) = true
  · rw [if_pos hv]
    rw [hv] at HV
    by_cases hu : valid (V.mk k2 n2 s2 ks2 es2) = true
    · rw [if_pos hu]
      rw [hu] at HU
      have HM2 := Lib.hid (HM.out hv hu)
      clear hv hu HM
      generalize mrg (V.mk k n s ks es) (V.mk k2 n2 s2 ks2 es2) = R at HM2 ⊢
      by_cases c6 : k = 6
      · rw [if_pos c6]
        by_cases c62 : k2 = 6
        · rw [if_pos c62]
          have HM3 := Lib.hid (HM2.out c6 c62)
          clear HM2
          subst c6 c62
          go_enter Tryz.func18, Tryz.ntmps18
          go_wp2_with fail
          refine (HV.out _ H0.out.below).mono ?_
          rintro e1 w1 ⟨rfl, hb1⟩
          have H1 := Lib.hid (H0.out.next hb1)
          clear hb1
          obtain ⟨y0, y1, y2, y3, y4⟩ := box5 H1.out.r
          have z0 := H1.out.r.free 0
          have z1 := H1.out.r.free 1
          have z2 := H1.out.r.free 2
          have z3 := H1.out.r.free 3
          have z4 := H1.out.r.free 4
          obtain ⟨t0, t1, t2, t3, t4⟩ := box5 H1.out.x
          obtain ⟨u0, u1, u2, u3, u4⟩ := box5 H1.out.y
          go_wp2_with fail
          refine (HU.out _ H1.out.below).mono ?_
          rintro e2 w2 ⟨rfl, hb2⟩
          have H2 := Lib.hid (H1.out.next hb2)
          clear hb2 y0 y1 y2 y3 y4 z0 z1 z2 z3 z4 t0 t1 t2 t3 t4 u0 u1 u2 u3 u4
          obtain ⟨y0, y1, y2, y3, y4⟩ := box5 H2.out.r
          have z0 := H2.out.r.free 0
          have z1 := H2.out.r.free 1
          have z2 := H2.out.r.free 2
          have z3 := H2.out.r.free 3
          have z4 := H2.out.r.free 4
          obtain ⟨t0, t1, t2, t3, t4⟩ := box5 H2.out.x
          obtain ⟨u0, u1, u2, u3, u4⟩ := box5 H2.out.y
          go_wp2_with fail
          refine (HM3.out _ H2.out.below).mono ?_
          rintro e3 w3 ⟨rk, rn, rs, rks, res, RA, ra, RC, rc, hrv, rfl, hb3, hl3⟩
          have H3 := Lib.hid (H2.out.next hb3)
          have HL := Lib.hid hl3
          have hs2 := H2.out.r.lt
          have hs3 := H2.out.below.size
          clear hb3 hl3 hrv y0 y1 y2 y3 y4 z0 z1 z2 z3 z4 t0 t1 t2 t3 t4 u0 u1 u2 u3 u4
          obtain ⟨y0, y1, y2, y3, y4⟩ := box5 H3.out.r
          have z0 := H3.out.r.free 0
          have z1 := H3.out.r.free 1
          have z2 := H3.out.r.free 2
          have z3 := H3.out.r.free 3
          have z4 := H3.out.r.free 4
          obtain ⟨t0, t1, t2, t3, t4⟩ := box5 H3.out.x
          obtain ⟨u0, u1, u2, u3, u4⟩ := box5 H3.out.y
          go_wp2_with fail
          refine bodyPost_ret (v := .tuple #[.agg #[.int .i64 rk, .int .i64 rn, .string rs, .slice RA rks.length ra, .slice RC res.length rc], .int .i64 R.2]) (by simp [results, Tryz.results18, go_sem, y0, y1, y2, y3, y4]) rfl ?_
          exact ret_put H3.out.below (by omega) H3.out.r.lt (HL.out.move fun b hb => ⟨⟨by omega, hb.2, by omega⟩, rfl⟩)
        · rw [if_neg c62]
          have q : (k2 == 6) = false := by simpa using c62
          clear HM2
          subst c6
          go_enter Tryz.func18, Tryz.ntmps18
          go_wp2_with fail
          refine (HV.out _ H0.out.below).mono ?_
          rintro e1 w1 ⟨rfl, hb1⟩
          have H1 := Lib.hid (H0.out.next hb1)
          clear hb1
          obtain ⟨y0, y1, y2, y3, y4⟩ := box5 H1.out.r
          have z0 := H1.out.r.free 0
          have z1 := H1.out.r.free 1
          have z2 := H1.out.r.free 2
          have z3 := H1.out.r.free 3
          have z4 := H1.out.r.free 4
          obtain ⟨t0, t1, t2, t3, t4⟩ := box5 H1.out.x
          obtain ⟨u0, u1, u2, u3, u4⟩ := box5 H1.out.y
          go_wp2_with fail
          refine (HU.out _ H1.out.below).mono ?_
          rintro e2 w2 ⟨rfl, hb2⟩
          have H2 := Lib.hid (H1.out.next hb2)
          clear hb2 y0 y1 y2 y3 y4 z0 z1 z2 z3 z4 t0 t1 t2 t3 t4 u0 u1 u2 u3 u4
          obtain ⟨y0, y1, y2, y3, y4⟩ := box5 H2.out.r
          have z0 := H2.out.r.free 0
          have z1 := H2.out.r.free 1
          have z2 := H2.out.r.free 2
          have z3 := H2.out.r.free 3
          have z4 := H2.out.r.free 4
          obtain ⟨t0, t1, t2, t3, t4⟩ := box5 H2.out.x
          obtain ⟨u0, u1, u2, u3, u4⟩ := box5 H2.out.y
          go_wp2_with fail
          refine bodyPost_ret (v := .tuple #[.agg #[.int .i64 0, .int .i64 0, .string ⟨#[]⟩, .slice none 0 0, .slice none 0 0], .int .i64 12]) (by simp [results, Tryz.results18, go_sem, y0, y1, y2, y3, y4]) rfl ?_
          exact ret_put H2.out.below (by omega) H2.out.r.lt (lies_null _ _)
      · rw [if_neg c6]
        have q : (k == 6) = false := by simpa using c6
        clear HM2
        go_enter Tryz.func18, Tryz.ntmps18
        go_wp2_with fail
        refine (HV.out _ H0.out.below).mono ?_
        rintro e1 w1 ⟨rfl, hb1⟩
        have H1 := Lib.hid (H0.out.next hb1)
        clear hb1
        obtain ⟨y0, y1, y2, y3, y4⟩ := box5 H1.out.r
        have z0 := H1.out.r.free 0
        have z1 := H1.out.r.free 1
        have z2 := H1.out.r.free 2
        have z3 := H1.out.r.free 3
        have z4 := H1.out.r.free 4
        obtain ⟨t0, t1, t2, t3, t4⟩ := box5 H1.out.x
        obtain ⟨u0, u1, u2, u3, u4⟩ := box5 H1.out.y
        go_wp2_with fail
        refine (HU.out _ H1.out.below).mono ?_
        rintro e2 w2 ⟨rfl, hb2⟩
        have H2 := Lib.hid (H1.out.next hb2)
        clear hb2 y0 y1 y2 y3 y4 z0 z1 z2 z3 z4 t0 t1 t2 t3 t4 u0 u1 u2 u3 u4
        obtain ⟨y0, y1, y2, y3, y4⟩ := box5 H2.out.r
        have z0 := H2.out.r.free 0
        have z1 := H2.out.r.free 1
        have z2 := H2.out.r.free 2
        have z3 := H2.out.r.free 3
        have z4 := H2.out.r.free 4
        obtain ⟨t0, t1, t2, t3, t4⟩ := box5 H2.out.x
        obtain ⟨u0, u1, u2, u3, u4⟩ := box5 H2.out.y
        go_wp2_with fail
        refine bodyPost_ret (v := .tuple #[.agg #[.int .i64 0, .int .i64 0, .string ⟨#[]⟩, .slice none 0 0, .slice none 0 0], .int .i64 12]) (by simp [results, Tryz.results18, go_sem, y0, y1, y2, y3, y4]) rfl ?_
        exact ret_put H2.out.below (by omega) H2.out.r.lt (lies_null _ _)
    · rw [if_neg hu]
      have hu2 : valid (V.mk k2 n2 s2 ks2 es2) = false := by simpa using hu
      rw [hu2] at HU
      clear HM hv hu hu2
      go_enter Tryz.func18, Tryz.ntmps18
      go_wp2_with fail
      refine (HV.out _ H0.out.below).mono ?_
      rintro e1 w1 ⟨rfl, hb1⟩
      have H1 := Lib.hid (H0.out.next hb1)
      clear hb1
      obtain ⟨y0, y1, y2, y3, y4⟩ := box5 H1.out.r
      have z0 := H1.out.r.free 0
      have z1 := H1.out.r.free 1
      have z2 := H1.out.r.free 2
      have z3 := H1.out.r.free 3
      have z4 := H1.out.r.free 4
      obtain ⟨t0, t1, t2, t3, t4⟩ := box5 H1.out.x
      obtain ⟨u0, u1, u2, u3, u4⟩ := box5 H1.out.y
      go_wp2_with fail
      refine (HU.out _ H1.out.below).mono ?_
      rintro e2 w2 ⟨rfl, hb2⟩
      have H2 := Lib.hid (H1.out.next hb2)
      clear hb2 y0 y1 y2 y3 y4 z0 z1 z2 z3 z4 t0 t1 t2 t3 t4 u0 u1 u2 u3 u4
      obtain ⟨y0, y1, y2, y3, y4⟩ := box5 H2.out.r
      have z0 := H2.out.r.free 0
      have z1 := H2.out.r.free 1
      have z2 := H2.out.r.free 2
      have z3 := H2.out.r.free 3
      have z4 := H2.out.r.free 4
      obtain ⟨t0, t1, t2, t3, t4⟩ := box5 H2.out.x
      obtain ⟨u0, u1, u2, u3, u4⟩ := box5 H2.out.y
      go_wp2_with fail
      refine bodyPost_ret (v := .tuple #[.agg #[.int .i64 0, .int .i64 0, .string ⟨#[]⟩, .slice none 0 0, .slice none 0 0], .int .i64 1]) (by simp [results, Tryz.results18, go_sem, y0, y1, y2, y3, y4]) rfl ?_
      exact ret_put H2.out.below (by omega) H2.out.r.lt (lies_null _ _)
  · rw [if_neg hv]
    have hv2 : valid (V.mk k n s ks es) = false := by simpa using hv
    rw [hv2] at HV
    clear HM hv hv2
    go_enter Tryz.func18, Tryz.ntmps18
    go_wp2_with fail
    refine (HV.out _ H0.out.below).mono ?_
    rintro e1 w1 ⟨rfl, hb1⟩
    have H1 := Lib.hid (H0.out.next hb1)
    clear hb1
    obtain ⟨y0, y1, y2, y3, y4⟩ := box5 H1.out.r
    have z0 := H1.out.r.free 0
    have z1 := H1.out.r.free 1
    have z2 := H1.out.r.free 2
    have z3 := H1.out.r.free 3
    have z4 := H1.out.r.free 4
    obtain ⟨t0, t1, t2, t3, t4⟩ := box5 H1.out.x
    obtain ⟨u0, u1, u2, u3, u4⟩ := box5 H1.out.y
    go_wp2_with fail
    refine bodyPost_ret (v := .tuple #[.agg #[.int .i64 0, .int .i64 0, .string ⟨#[]⟩, .slice none 0 0, .slice none 0 0], .int .i64 1]) (by simp [results, Tryz.results18, go_sem, y0, y1, y2, y3, y4]) rfl ?_
    exact ret_put H1.out.below (by omega) H1.out.r.lt (lies_null _ _)
end Go.Proofs.YtgdnkankleoaoaaGreatDoor
namespace Go.Proofs.YtgdnkankleoaoaaGreatDoor
theorem putL_self {qs : PL} (h : PAsc qs) : putL qs qs = qs :=
  canon (putL_asc h qs) h fun k => by rw [putL_look h k, lastP_asc k h]; cases look qs k <;> rfl
theorem idx_self {ks : List ByteArray} (h : Asc ks) {i : Nat} {k : ByteArray} (hk : ks[i]? = some k) : idxOf ks k = some i := by
  refine idxOf_hit (fun j hj hjk => ?_) hk
  have := asc_at h hj hjk hk
  rw [scmp_self] at this
  omega
theorem mrgL_self {ks : List ByteArray} {es : List V} (ha : Asc ks) (hlen : ks.length = es.length) (ih : ∀ e ∈ es, kd e = 6 → mrg e e = (e, 0)) : ∀ (m i : Nat), es.length - i = m → mrgL ks es (ks.drop i) (es.drop i) = (es.drop i, 0)
  | 0, i, hm => by rw [List.drop_eq_nil_of_le (show es.length ≤ i by omega), mrgL_nil]
  | m + 1, i, hm => by
    have hi : i < es.length := by omega
    have hk : i < ks.length := by omega
    have he := List.getElem?_eq_getElem hi
    have hkk := List.getElem?_eq_getElem hk
    obtain ⟨d1, d2⟩ := MgP.drops hkk he
    have rest := mrgL_self ha hlen ih m (i + 1) (by omega)
    rw [d1, d2]
    have hx := idx_self ha hkk
    have hh : hit ks es ks[i] es[i] = if kd es[i] = 6 ∧ kd es[i] = 6 then some es[i] else none := by
      unfold hit
      rw [hx]
      simp only [he]
    by_cases h6 : kd es[i] = 6
    · rw [if_pos ⟨h6, h6⟩] at hh
      have hs := ih es[i] (List.getElem_mem hi) h6
      rw [mrgL_some hh (by rw [hs]), rest, hs]
    · rw [if_neg (fun q => h6 q.1)] at hh
      rw [mrgL_none hh, rest]
/-- Merging a valid object with itself changes nothing. -/
theorem mrg_self : ∀ v, valid v = true → kd v = 6 → mrg v v = (v, 0) := by
  refine V.ind fun k n s ks es ih hv h6 => ?_
  have h6 : k = 6 := h6
  rcases valid_shape hv with ⟨hk, _⟩ | ⟨hk, _⟩ | ⟨hk, _⟩ | ⟨hk, _⟩ | ⟨hk, hn, hs, hlen⟩
  · omega
  · omega
  · omega
  · omega
  · subst hk hn hs
    have hel := valid_elems hv
    rw [List.all_eq_true] at hel
    have h1 := mrgL_self (valid_keys hv).1 hlen (fun e he hk => ih e he (hel e he) hk) es.length 0 (by omega)
    rw [List.drop_zero, List.drop_zero] at h1
    have ho : objL (ks.zip es) = .mk 6 0 ⟨#[]⟩ ks es := by
      unfold objL
      rw [List.map_fst_zip (by omega), List.map_snd_zip (by omega)]
    have hps : putL (ks.zip es) (ks.zip es) = ks.zip es := putL_self (prs_asc hv)
    rw [mrg_eq, h1, if_pos rfl]
    show lim (objL (putL (ks.zip es) (ks.zip es))) = _
    rw [hps, ho]
    unfold lim
    rw [finV_ok hv, finE_ok hv]
end Go.Proofs.YtgdnkankleoaoaaGreatDoor
