/- text: functions of two strings, from those of the list. -/
import Derived.Test.YtjafmdngbphacaaGreatDoorC26
import Derived.Test.YtjafmdngbphacaaGreatDoorC30
import Derived.Test.YtjafmdngbphacaaGreatDoorC36
import Derived.Test.YtjafmdngbphacaaGreatDoorC37
set_option linter.unusedVariables false
set_option linter.unusedSimpArgs false
namespace Go.Proofs.YtjafmdngbphacaaGreatDoor
open Go.RowKit Go.Sort
set_option maxHeartbeats 4000000 in
set_option maxRecDepth 100000 in
theorem top_StartsWith (v u r : V) (er : Int) (cs ds : List Value) (w : World) (h : Lies w (· < w.heap.size) v cs) (h' : Lies w (· < w.heap.size) u ds)
    (HC : ∀ W, Below w.heap.size w W → Calls Tryz.prog 115 #[.int .i64 6, .agg cs.toArray, .agg ds.toArray] W (RetPost r er W)) :
    Calls Tryz.prog 51 #[.agg cs.toArray, .agg ds.toArray] w (RetPost r er w) := by
  have HM := Lib.hid (fun W hW => ret_open (HC W hW))
  clear HC
  obtain ⟨k, n, s, ks, es⟩ := v
  obtain ⟨k2, n2, s2, ks2, es2⟩ := u
  obtain ⟨A, a, B, b, xs, rfl, _⟩ := lies_open h
  obtain ⟨A2, a2, B2, b2', ys, rfl, _⟩ := lies_open h'
  clear h h'
  have H0 := Lib.hid (B3.start w #[.int .i64 k, .int .i64 n, .string s, .slice A ks.length a, .slice B es.length b] #[.int .i64 k2, .int .i64 n2, .string s2, .slice A2 ks2.length a2, .slice B2 es2.length b2'])
  go_enter Tryz.func51, Tryz.ntmps51
  go_wp2_with fail
  refine (HM.out _ H0.out.below).mono ?_
  rintro e1 w1 ⟨rk, rn, rs, rks, res, RA, ra, RC, rc, hrv, rfl, hb1, hl1⟩
  have H1 := Lib.hid (H0.out.next hb1)
  have HL := Lib.hid hl1
  have hs1 := H0.out.r.lt
  have hs2 := H1.out.r.lt
  have hs3 := H0.out.below.size
  clear hb1 hl1 hrv
  obtain ⟨y0, y1, y2, y3, y4⟩ := box5 H1.out.r
  have z0 := H1.out.r.free 0
  have z1 := H1.out.r.free 1
  have z2 := H1.out.r.free 2
  have z3 := H1.out.r.free 3
  have z4 := H1.out.r.free 4
  obtain ⟨t0, t1, t2, t3, t4⟩ := box5 H1.out.x
  obtain ⟨u0, u1, u2, u3, u4⟩ := box5 H1.out.y
  go_wp2_with fail
  refine bodyPost_ret (v := .tuple #[.agg #[.int .i64 rk, .int .i64 rn, .string rs, .slice RA rks.length ra, .slice RC res.length rc], .int .i64 er]) (by simp [results, Tryz.results51, go_sem, y0, y1, y2, y3, y4]) rfl ?_
  exact ret_put H1.out.below (by omega) H1.out.r.lt (HL.out.move fun b hb => ⟨⟨by omega, hb.2, by omega⟩, rfl⟩)
set_option maxHeartbeats 4000000 in
set_option maxRecDepth 100000 in
theorem top_EndsWith (v u r : V) (er : Int) (cs ds : List Value) (w : World) (h : Lies w (· < w.heap.size) v cs) (h' : Lies w (· < w.heap.size) u ds)
    (HC : ∀ W, Below w.heap.size w W → Calls Tryz.prog 115 #[.int .i64 7, .agg cs.toArray, .agg ds.toArray] W (RetPost r er W)) :
    Calls Tryz.prog 53 #[.agg cs.toArray, .agg ds.toArray] w (RetPost r er w) := by
  have HM := Lib.hid (fun W hW => ret_open (HC W hW))
  clear HC
  obtain ⟨k, n, s, ks, es⟩ := v
  obtain ⟨k2, n2, s2, ks2, es2⟩ := u
  obtain ⟨A, a, B, b, xs, rfl, _⟩ := lies_open h
  obtain ⟨A2, a2, B2, b2', ys, rfl, _⟩ := lies_open h'
  clear h h'
  have H0 := Lib.hid (B3.start w #[.int .i64 k, .int .i64 n, .string s, .slice A ks.length a, .slice B es.length b] #[.int .i64 k2, .int .i64 n2, .string s2, .slice A2 ks2.length a2, .slice B2 es2.length b2'])
  go_enter Tryz.func53, Tryz.ntmps53
  go_wp2_with fail
  refine (HM.out _ H0.out.below).mono ?_
  rintro e1 w1 ⟨rk, rn, rs, rks, res, RA, ra, RC, rc, hrv, rfl, hb1, hl1⟩
  have H1 := Lib.hid (H0.out.next hb1)
  have HL := Lib.hid hl1
  have hs1 := H0.out.r.lt
  have hs2 := H1.out.r.lt
  have hs3 := H0.out.below.size
  clear hb1 hl1 hrv
  obtain ⟨y0, y1, y2, y3, y4⟩ := box5 H1.out.r
  have z0 := H1.out.r.free 0
  have z1 := H1.out.r.free 1
  have z2 := H1.out.r.free 2
  have z3 := H1.out.r.free 3
  have z4 := H1.out.r.free 4
  obtain ⟨t0, t1, t2, t3, t4⟩ := box5 H1.out.x
  obtain ⟨u0, u1, u2, u3, u4⟩ := box5 H1.out.y
  go_wp2_with fail
  refine bodyPost_ret (v := .tuple #[.agg #[.int .i64 rk, .int .i64 rn, .string rs, .slice RA rks.length ra, .slice RC res.length rc], .int .i64 er]) (by simp [results, Tryz.results53, go_sem, y0, y1, y2, y3, y4]) rfl ?_
  exact ret_put H1.out.below (by omega) H1.out.r.lt (HL.out.move fun b hb => ⟨⟨by omega, hb.2, by omega⟩, rfl⟩)
set_option maxHeartbeats 4000000 in
set_option maxRecDepth 100000 in
theorem top_CutPrefix (v u r : V) (er : Int) (cs ds : List Value) (w : World) (h : Lies w (· < w.heap.size) v cs) (h' : Lies w (· < w.heap.size) u ds)
    (HC : ∀ W, Below w.heap.size w W → Calls Tryz.prog 118 #[.int .i64 8, .agg cs.toArray, .agg ds.toArray] W (RetPost r er W)) :
    Calls Tryz.prog 55 #[.agg cs.toArray, .agg ds.toArray] w (RetPost r er w) := by
  have HM := Lib.hid (fun W hW => ret_open (HC W hW))
  clear HC
  obtain ⟨k, n, s, ks, es⟩ := v
  obtain ⟨k2, n2, s2, ks2, es2⟩ := u
  obtain ⟨A, a, B, b, xs, rfl, _⟩ := lies_open h
  obtain ⟨A2, a2, B2, b2', ys, rfl, _⟩ := lies_open h'
  clear h h'
  have H0 := Lib.hid (B3.start w #[.int .i64 k, .int .i64 n, .string s, .slice A ks.length a, .slice B es.length b] #[.int .i64 k2, .int .i64 n2, .string s2, .slice A2 ks2.length a2, .slice B2 es2.length b2'])
  go_enter Tryz.func55, Tryz.ntmps55
  go_wp2_with fail
  refine (HM.out _ H0.out.below).mono ?_
  rintro e1 w1 ⟨rk, rn, rs, rks, res, RA, ra, RC, rc, hrv, rfl, hb1, hl1⟩
  have H1 := Lib.hid (H0.out.next hb1)
  have HL := Lib.hid hl1
  have hs1 := H0.out.r.lt
  have hs2 := H1.out.r.lt
  have hs3 := H0.out.below.size
  clear hb1 hl1 hrv
  obtain ⟨y0, y1, y2, y3, y4⟩ := box5 H1.out.r
  have z0 := H1.out.r.free 0
  have z1 := H1.out.r.free 1
  have z2 := H1.out.r.free 2
  have z3 := H1.out.r.free 3
  have z4 := H1.out.r.free 4
  obtain ⟨t0, t1, t2, t3, t4⟩ := box5 H1.out.x
  obtain ⟨u0, u1, u2, u3, u4⟩ := box5 H1.out.y
  go_wp2_with fail
  refine bodyPost_ret (v := .tuple #[.agg #[.int .i64 rk, .int .i64 rn, .string rs, .slice RA rks.length ra, .slice RC res.length rc], .int .i64 er]) (by simp [results, Tryz.results55, go_sem, y0, y1, y2, y3, y4]) rfl ?_
  exact ret_put H1.out.below (by omega) H1.out.r.lt (HL.out.move fun b hb => ⟨⟨by omega, hb.2, by omega⟩, rfl⟩)
set_option maxHeartbeats 4000000 in
set_option maxRecDepth 100000 in
theorem top_CutSuffix (v u r : V) (er : Int) (cs ds : List Value) (w : World) (h : Lies w (· < w.heap.size) v cs) (h' : Lies w (· < w.heap.size) u ds)
    (HC : ∀ W, Below w.heap.size w W → Calls Tryz.prog 118 #[.int .i64 9, .agg cs.toArray, .agg ds.toArray] W (RetPost r er W)) :
    Calls Tryz.prog 57 #[.agg cs.toArray, .agg ds.toArray] w (RetPost r er w) := by
  have HM := Lib.hid (fun W hW => ret_open (HC W hW))
  clear HC
  obtain ⟨k, n, s, ks, es⟩ := v
  obtain ⟨k2, n2, s2, ks2, es2⟩ := u
  obtain ⟨A, a, B, b, xs, rfl, _⟩ := lies_open h
  obtain ⟨A2, a2, B2, b2', ys, rfl, _⟩ := lies_open h'
  clear h h'
  have H0 := Lib.hid (B3.start w #[.int .i64 k, .int .i64 n, .string s, .slice A ks.length a, .slice B es.length b] #[.int .i64 k2, .int .i64 n2, .string s2, .slice A2 ks2.length a2, .slice B2 es2.length b2'])
  go_enter Tryz.func57, Tryz.ntmps57
  go_wp2_with fail
  refine (HM.out _ H0.out.below).mono ?_
  rintro e1 w1 ⟨rk, rn, rs, rks, res, RA, ra, RC, rc, hrv, rfl, hb1, hl1⟩
  have H1 := Lib.hid (H0.out.next hb1)
  have HL := Lib.hid hl1
  have hs1 := H0.out.r.lt
  have hs2 := H1.out.r.lt
  have hs3 := H0.out.below.size
  clear hb1 hl1 hrv
  obtain ⟨y0, y1, y2, y3, y4⟩ := box5 H1.out.r
  have z0 := H1.out.r.free 0
  have z1 := H1.out.r.free 1
  have z2 := H1.out.r.free 2
  have z3 := H1.out.r.free 3
  have z4 := H1.out.r.free 4
  obtain ⟨t0, t1, t2, t3, t4⟩ := box5 H1.out.x
  obtain ⟨u0, u1, u2, u3, u4⟩ := box5 H1.out.y
  go_wp2_with fail
  refine bodyPost_ret (v := .tuple #[.agg #[.int .i64 rk, .int .i64 rn, .string rs, .slice RA rks.length ra, .slice RC res.length rc], .int .i64 er]) (by simp [results, Tryz.results57, go_sem, y0, y1, y2, y3, y4]) rfl ?_
  exact ret_put H1.out.below (by omega) H1.out.r.lt (HL.out.move fun b hb => ⟨⟨by omega, hb.2, by omega⟩, rfl⟩)
theorem lies_up {w W : World} {x : Nat} {v : V} {cs : List Value} (hb : Below w.heap.size w W) (hl : Lies w (fun b => x ≤ b ∧ b < w.heap.size) v cs) : Lies W (fun b => x ≤ b ∧ b < w.heap.size) v cs := hl.move fun b h => ⟨h, hb.block b h.2⟩
set_option maxHeartbeats 4000000 in
set_option maxRecDepth 100000 in
theorem cut_ok (i : Int) (v u r : V) (cs ds : List Value) (w : World) (h : Lies w (· < w.heap.size) v cs) (h' : Lies w (· < w.heap.size) u ds)
    (HC : ∀ W, Below w.heap.size w W → Calls Tryz.prog 115 #[.int .i64 i, .agg cs.toArray, .agg ds.toArray] W (RetPost r 0 W)) :
    Calls Tryz.prog 118 #[.int .i64 i, .agg cs.toArray, .agg ds.toArray] w (RetPost r 0 w) := by
  have HM := Lib.hid (fun W hW => ret_open (HC W hW))
  clear HC
  obtain ⟨k, n, s, ks, es⟩ := v
  obtain ⟨k2, n2, s2, ks2, es2⟩ := u
  obtain ⟨A, a, B, b, xs, rfl, _⟩ := lies_open h
  obtain ⟨A2, a2, B2, b2', ys, rfl, _⟩ := lies_open h'
  clear h h'
  have H0 := Lib.hid (B3.start w #[.int .i64 k, .int .i64 n, .string s, .slice A ks.length a, .slice B es.length b] #[.int .i64 k2, .int .i64 n2, .string s2, .slice A2 ks2.length a2, .slice B2 es2.length b2'])
  go_enter Tryz.func118, Tryz.ntmps118
  go_wp2_with fail
  refine (HM.out _ H0.out.below).mono ?_
  rintro e1 w1 ⟨rk, rn, rs, rks, res, RA, ra, RC, rc, hrv, rfl, hb1, hl1⟩
  have H1 := Lib.hid ((H0.out.next hb1).next (below1 w1 (.cells #[.int .i64 rk, .int .i64 rn, .string rs, .slice RA rks.length ra, .slice RC res.length rc] 25)))
  have HX := Lib.hid (Box.laid w1 25 #[.int .i64 rk, .int .i64 rn, .string rs, .slice RA rks.length ra, .slice RC res.length rc])
  have HL := Lib.hid (lies_up (below1 w1 (.cells #[.int .i64 rk, .int .i64 rn, .string rs, .slice RA rks.length ra, .slice RC res.length rc] 25)) hl1)
  have hs1 := H0.out.r.lt
  have hs2 := H1.out.r.lt
  have hs3 := H0.out.below.size
  have hs4 := hb1.size
  clear hb1 hl1 hrv
  obtain ⟨y0, y1, y2, y3, y4⟩ := box5 H1.out.r
  have z0 := H1.out.r.free 0
  have z1 := H1.out.r.free 1
  have z2 := H1.out.r.free 2
  have z3 := H1.out.r.free 3
  have z4 := H1.out.r.free 4
  obtain ⟨t0, t1, t2, t3, t4⟩ := box5 H1.out.x
  obtain ⟨u0, u1, u2, u3, u4⟩ := box5 H1.out.y
  obtain ⟨x0, x1, x2, x3, x4⟩ := box5 HX.out
  go_wp2_with fail
  refine bodyPost_ret (v := .tuple #[.agg #[.int .i64 rk, .int .i64 rn, .string rs, .slice RA rks.length ra, .slice RC res.length rc], .int .i64 0]) (by simp [results, Tryz.results118, go_sem, y0, y1, y2, y3, y4]) rfl ?_
  exact ret_put H1.out.below (by omega) H1.out.r.lt (HL.out.move fun b hb => ⟨⟨by omega, by have := hb.2; simp; omega, by omega⟩, rfl⟩)
/-- What Indices gives for two strings. -/
def ixR (xs ys : List Nat) : V × Int := if ys.length = 0 then (vnull, 0) else (arrR ((occ (xs.map Int.ofNat) (ys.map Int.ofNat) (xs.length + 1 - ys.length)).map numV), arrE ((occ (xs.map Int.ofNat) (ys.map Int.ofNat) (xs.length + 1 - ys.length)).map numV))
theorem runes_own {f : FuncId} {args : Array Value} {w : World} {o : Option (List Nat)} (h : Calls Tryz.prog f args w fun e w' => RunesPost o w e w') (xs : List Nat) (ho : o = some xs) :
    Calls Tryz.prog f args w fun e w' => Below w.heap.size w w' ∧ ∃ v, e = .returned (.tuple #[v, .bool true]) ∧ w'.ownsRow w.heap.size 3 1 v xs.length (iv xs) := by subst ho; exact h
theorem iv_zvs (xs : List Nat) : iv xs = zvs (xs.map Int.ofNat) := by simp [iv, zvs]
theorem occ_both (A B : Option Addr) (c d : Nat) (xs ys : List Nat) (w : World) (hA : Rs w (· < w.heap.size) A (iv xs)) (hB : Rs w (· < w.heap.size) B (iv ys)) (hnc : xs.length ≤ c) (hcm : c ≤ maxLen) (hn1 : xs.length ≤ 999999) (hm1 : ys.length ≤ 999999) :
    Calls Tryz.prog 248 #[.slice A xs.length c, .slice B ys.length d] w (RetPost (ixR xs ys).1 (ixR xs ys).2 w) := by
  unfold ixR
  by_cases h0 : ys.length = 0
  · rw [if_pos h0, h0]
    exact occ_none A B c d xs.length w
  · rw [if_neg h0]
    rw [iv_zvs] at hA hB
    exact occ_any A B c d xs.length ys.length _ _ w hA hB (by simp) (by simp) hnc hcm hn1 hm1 (by omega)
set_option maxHeartbeats 4000000 in
set_option maxRecDepth 100000 in
theorem m_indices (s t : ByteArray) (xs ys : List Nat) (w : World) (hx : runes s.data.toList = some xs) (hy : runes t.data.toList = some ys) (hs : s.size ≤ 900000) (ht : t.size ≤ 900000) : Calls Tryz.prog 208 #[.agg #[.string s, .string t]] w (RetPost (ixR xs ys).1 (ixR xs ys).2 w) := by
  have HR1 := Lib.hid (fun W => runes_own (runes_any s (by omega) W) xs hx)
  have HR2 := Lib.hid (fun W => runes_own (runes_any t (by omega) W) ys hy)
  have hlx : xs.length ≤ 900000 := by have := runes_length hx; simp at this; omega
  have hly : ys.length ≤ 900000 := by have := runes_length hy; simp at this; omega
  have H0 := Lib.hid (T2.start w s t)
  clear hx hy hs ht
  go_enter Tryz.func208, Tryz.ntmps208
  go_wp2_with fail
  refine (HR1.out _).mono ?_
  rintro e1 w1 ⟨hb1, v1, rfl, ho1⟩
  obtain ⟨D1, d1, rfl, hdn1, hdl1, hdm1, hrs1⟩ := own_open ho1
  have H1 := Lib.hid (H0.out.next hb1)
  have HS1 := Lib.hid (show Rs w1 (· < w1.heap.size) D1 (iv xs) from hrs1.move fun b hb => ⟨hb.2.1, rfl⟩)
  clear hb1 ho1 hrs1 hdn1
  obtain ⟨p0, p1⟩ : w1.cell? ⟨w.heap.size, 0, none⟩ = some (.string s) ∧ w1.cell? ⟨w.heap.size, 1, none⟩ = some (.string t) := ⟨H1.out.x.cell rfl, H1.out.x.cell rfl⟩
  go_wp2_with fail
  refine (HR2.out _).mono ?_
  rintro e2 w2 ⟨hb2, v2, rfl, ho2⟩
  obtain ⟨D2, d2, rfl, hdn2, hdl2, hdm2, hrs2⟩ := own_open ho2
  have H2 := Lib.hid (H1.out.next hb2)
  have HS2 := Lib.hid (show Rs w2 (· < w2.heap.size) D2 (iv ys) from hrs2.move fun b hb => ⟨hb.2.1, rfl⟩)
  have HS3 := Lib.hid (show Rs w2 (· < w2.heap.size) D1 (iv xs) from HS1.out.move fun b hb => ⟨Nat.lt_of_lt_of_le hb hb2.size, hb2.block b hb⟩)
  have HOC := Lib.hid (ret_open (occ_both D1 D2 d1 d2 xs ys w2 HS3.out HS2.out hdl1 hdm1 (by omega) (by omega)))
  clear hb2 ho2 hrs2 hdn2 p0 p1
  go_wp2_with fail
  refine HOC.out.mono ?_
  rintro e3 w3 ⟨rk, rn, rs, rks, res, RA, ra, RC, rc, hrv, rfl, hb3, hl3⟩
  have H3 := Lib.hid (H2.out.next hb3)
  have HL := Lib.hid hl3
  have hs2 := H2.out.r.lt
  have hs3 := H2.out.below.size
  clear hb3 hl3 hrv
  obtain ⟨y0, y1, y2, y3, y4⟩ := box5 H3.out.r
  have z0 := H3.out.r.free 0
  have z1 := H3.out.r.free 1
  have z2 := H3.out.r.free 2
  have z3 := H3.out.r.free 3
  have z4 := H3.out.r.free 4
  go_wp2_with fail
  refine bodyPost_ret (v := .tuple #[.agg #[.int .i64 rk, .int .i64 rn, .string rs, .slice RA rks.length ra, .slice RC res.length rc], .int .i64 (ixR xs ys).2]) (by simp [results, Tryz.results208, go_sem, y0, y1, y2, y3, y4]) rfl ?_
  exact ret_put H3.out.below (by omega) H3.out.r.lt (HL.out.move fun b hb => ⟨⟨by omega, hb.2, by omega⟩, rfl⟩)
set_option maxHeartbeats 4000000 in
set_option maxRecDepth 100000 in
/-- Indices at a first argument that is no array. -/
theorem top_Indices (v u r : V) (er : Int) (cs ds : List Value) (w : World) (h : Lies w (· < w.heap.size) v cs) (h' : Lies w (· < w.heap.size) u ds) (h5 : ¬ kd v = 5)
    (HC : ∀ W, Below w.heap.size w W → Calls Tryz.prog 115 #[.int .i64 11, .agg cs.toArray, .agg ds.toArray] W (RetPost r er W)) :
    Calls Tryz.prog 63 #[.agg cs.toArray, .agg ds.toArray] w (RetPost r er w) := by
  have HM := Lib.hid (fun W hW => ret_open (HC W hW))
  clear HC
  obtain ⟨k, n, s, ks, es⟩ := v
  obtain ⟨k2, n2, s2, ks2, es2⟩ := u
  obtain ⟨A, a, B, b, xs, rfl, _⟩ := lies_open h
  obtain ⟨A2, a2, B2, b2', ys, rfl, _⟩ := lies_open h'
  clear h h'
  have H0 := Lib.hid (B3.start w #[.int .i64 k, .int .i64 n, .string s, .slice A ks.length a, .slice B es.length b] #[.int .i64 k2, .int .i64 n2, .string s2, .slice A2 ks2.length a2, .slice B2 es2.length b2'])
  have hk5 : ¬ k = 5 := h5
  have q : (k == 5) = false := by simpa using hk5
  have q2 : (k != 5) = true := by simp [hk5]
  clear h5
  go_enter Tryz.func63, Tryz.ntmps63
  go_wp2_with fail
  refine (HM.out _ H0.out.below).mono ?_
  rintro e1 w1 ⟨rk, rn, rs, rks, res, RA, ra, RC, rc, hrv, rfl, hb1, hl1⟩
  have H1 := Lib.hid (H0.out.next hb1)
  have HL := Lib.hid hl1
  have hs1 := H0.out.r.lt
  have hs2 := H1.out.r.lt
  have hs3 := H0.out.below.size
  clear hb1 hl1 hrv
  obtain ⟨y0, y1, y2, y3, y4⟩ := box5 H1.out.r
  have z0 := H1.out.r.free 0
  have z1 := H1.out.r.free 1
  have z2 := H1.out.r.free 2
  have z3 := H1.out.r.free 3
  have z4 := H1.out.r.free 4
  obtain ⟨t0, t1, t2, t3, t4⟩ := box5 H1.out.x
  obtain ⟨u0, u1, u2, u3, u4⟩ := box5 H1.out.y
  go_wp2_with fail
  refine bodyPost_ret (v := .tuple #[.agg #[.int .i64 rk, .int .i64 rn, .string rs, .slice RA rks.length ra, .slice RC res.length rc], .int .i64 er]) (by simp [results, Tryz.results63, go_sem, y0, y1, y2, y3, y4]) rfl ?_
  exact ret_put H1.out.below (by omega) H1.out.r.lt (HL.out.move fun b hb => ⟨⟨by omega, hb.2, by omega⟩, rfl⟩)
/-- The string that law 8 makes. -/
theorem str8_any (s : ByteArray) (w : World) : Calls Tryz.prog 65 #[.string s] w fun e w' => e = .returned (.agg #[.int .i64 4, .int .i64 0, .string s, .slice none 0 0, .slice none 0 0]) ∧ Below w.heap.size w w' := by
  go_enter Tryz.func65, Tryz.ntmps65
  go_wp2_with fail
  refine bodyPost_ret (v := .agg #[.int .i64 4, .int .i64 0, .string s, .slice none 0 0, .slice none 0 0]) (by simp [results, Tryz.results65, go_sem]) rfl ⟨rfl, ?_⟩
  exact (Below.refl _ _).alloc (Nat.le_refl _) _
theorem on_ok {s t : ByteArray} (hs : valid (strV s) = true) (ht : valid (strV t) = true) (R : V × Int) : onR (strV s) (strV t) R = R := by
  unfold onR
  rw [if_pos hs, if_pos ht, if_pos (show kd (strV s) = 4 from rfl), if_pos (show kd (strV t) = 4 from rfl)]
/-- The cells of a string that law 8 makes. -/
def sc (s : ByteArray) : List Value := [.int .i64 4, .int .i64 0, .string s, .slice none 0 0, .slice none 0 0]
theorem starts_two (a b : ByteArray) (ha : valid (strV a) = true) (hab : valid (strV (a ++ b)) = true) (w : World) (h1 : (a ++ b).size ≤ 100000) (h2 : a.size ≤ 100000) :
    Calls Tryz.prog 51 #[.agg (sc (a ++ b)).toArray, .agg (sc a).toArray] w (RetPost (boolV true) 0 w) :=
  top_StartsWith (strV (a ++ b)) (strV a) _ _ _ _ w (lies_str _ _ _ (by omega)) (lies_str _ _ _ (by omega)) fun W hW => by
    have := on_startsWith (strV (a ++ b)) (strV a) (boolV true, 0) (sc (a ++ b)) (sc a) W (lies_str _ _ _ (by omega)) (lies_str _ _ _ (by omega)) fun _ _ _ _ W' => by
      have := m_startsWith (a ++ b) a W'
      rw [cat_pre] at this
      exact this
    rw [on_ok hab ha] at this
    exact this
theorem ends_two (a b : ByteArray) (hb : valid (strV b) = true) (hab : valid (strV (a ++ b)) = true) (w : World) (h1 : (a ++ b).size ≤ 100000) (h2 : b.size ≤ 100000) :
    Calls Tryz.prog 53 #[.agg (sc (a ++ b)).toArray, .agg (sc b).toArray] w (RetPost (boolV true) 0 w) :=
  top_EndsWith (strV (a ++ b)) (strV b) _ _ _ _ w (lies_str _ _ _ (by omega)) (lies_str _ _ _ (by omega)) fun W hW => by
    have := on_endsWith (strV (a ++ b)) (strV b) (boolV true, 0) (sc (a ++ b)) (sc b) W (lies_str _ _ _ (by omega)) (lies_str _ _ _ (by omega)) fun _ _ _ _ W' => by
      have := m_endsWith (a ++ b) b W' (by omega)
      rw [cat_suf] at this
      exact this
    rw [on_ok hab hb] at this
    exact this
theorem cutp_two (a b : ByteArray) (ha : valid (strV a) = true) (hab : valid (strV (a ++ b)) = true) (hb : okS b = true) (hb4 : b.size ≤ 4096) (w : World) (h1 : (a ++ b).size ≤ 100000) (h2 : a.size ≤ 100000) :
    Calls Tryz.prog 55 #[.agg (sc (a ++ b)).toArray, .agg (sc a).toArray] w (RetPost (strV b) 0 w) :=
  top_CutPrefix (strV (a ++ b)) (strV a) _ _ _ _ w (lies_str _ _ _ (by omega)) (lies_str _ _ _ (by omega)) fun W hW =>
    cut_ok 8 (strV (a ++ b)) (strV a) _ _ _ W (lies_str _ _ _ (by omega)) (lies_str _ _ _ (by omega)) fun W2 hW2 => by
    have := on_cutPrefix (strV (a ++ b)) (strV a) (strV b, 0) (sc (a ++ b)) (sc a) W2 (lies_str _ _ _ (by omega)) (lies_str _ _ _ (by omega)) fun _ _ _ _ W' => by
      have := m_cutPrefix (a ++ b) a b W' (cat_cutp a b) (by omega)
      rw [(str_ok hb hb4).1, (str_ok hb hb4).2] at this
      exact this
    rw [on_ok hab ha] at this
    exact this
theorem cuts_two (a b : ByteArray) (hb : valid (strV b) = true) (hab : valid (strV (a ++ b)) = true) (ha : okS a = true) (ha4 : a.size ≤ 4096) (w : World) (h1 : (a ++ b).size ≤ 100000) (h2 : b.size ≤ 100000) :
    Calls Tryz.prog 57 #[.agg (sc (a ++ b)).toArray, .agg (sc b).toArray] w (RetPost (strV a) 0 w) :=
  top_CutSuffix (strV (a ++ b)) (strV b) _ _ _ _ w (lies_str _ _ _ (by omega)) (lies_str _ _ _ (by omega)) fun W hW =>
    cut_ok 9 (strV (a ++ b)) (strV b) _ _ _ W (lies_str _ _ _ (by omega)) (lies_str _ _ _ (by omega)) fun W2 hW2 => by
    have := on_cutSuffix (strV (a ++ b)) (strV b) (strV a, 0) (sc (a ++ b)) (sc b) W2 (lies_str _ _ _ (by omega)) (lies_str _ _ _ (by omega)) fun _ _ _ _ W' => by
      have := m_cutSuffix (a ++ b) b a W' (by omega) (cat_cuts a b) (by omega)
      rw [(str_ok ha ha4).1, (str_ok ha ha4).2] at this
      exact this
    rw [on_ok hab hb] at this
    exact this
/-- Indices of two strings. -/
theorem indices_two (s t : ByteArray) (xs ys : List Nat) (hs : valid (strV s) = true) (ht : valid (strV t) = true) (hx : runes s.data.toList = some xs) (hy : runes t.data.toList = some ys) (h1 : s.size ≤ 100000) (h2 : t.size ≤ 100000) (w : World) :
    Calls Tryz.prog 63 #[.agg (sc s).toArray, .agg (sc t).toArray] w (RetPost (ixR xs ys).1 (ixR xs ys).2 w) :=
  top_Indices (strV s) (strV t) _ _ _ _ w (lies_str _ _ _ (by omega)) (lies_str _ _ _ (by omega)) (show ¬ kd (strV s) = 5 from (by decide : ¬ (4 : Int) = 5)) fun W hW => by
    have := on_indices (strV s) (strV t) (ixR xs ys) (sc s) (sc t) W (lies_str _ _ _ (by omega)) (lies_str _ _ _ (by omega)) fun _ _ _ _ W' => m_indices s t xs ys W' hx hy (by omega) (by omega)
    rw [on_ok hs ht] at this
    exact this
end Go.Proofs.YtjafmdngbphacaaGreatDoor
