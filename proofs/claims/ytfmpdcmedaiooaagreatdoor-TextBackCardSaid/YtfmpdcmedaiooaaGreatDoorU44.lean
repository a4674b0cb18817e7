/- text: Explode and FromJSON at a string. -/
import Derived.Test.YtfmpdcmedaiooaaGreatDoorU43
import Derived.Test.YtfmpdcmedaiooaaGreatDoorU34
import Derived.Test.YtfmpdcmedaiooaaGreatDoorU41
set_option linter.unusedVariables false
set_option linter.unusedSimpArgs false
namespace Go.Proofs.YtfmpdcmedaiooaaGreatDoor
open Go.RowKit Go.Sort
set_option maxHeartbeats 4000000 in
set_option maxRecDepth 100000 in
/-- explode. -/
theorem on_explode (v u : V) (R : V × Int) (cs ds : List Value) (w : World) (h : Lies w (· < w.heap.size) v cs) (h' : Lies w (· < w.heap.size) u ds)
    (HF : valid v = true → valid u = true → kd v = 4 → kd u = 4 → ∀ W, Below w.heap.size w W → Calls Tryz.prog 47 #[.agg #[.string (stv v), .string (stv u)]] W (RetPost R.1 R.2 W)) :
    Calls Tryz.prog 26 #[.int .i64 0, .agg cs.toArray, .agg ds.toArray] w (RetPost (onR v u R).1 (onR v u R).2 w) := by
  by_cases hgood : valid v = true ∧ valid u = true ∧ kd v = 4 ∧ kd u = 4
  · obtain ⟨hv, hu, k4, k42⟩ := hgood
    have HV := Lib.hid (fun W (hW : Below w.heap.size w W) => valid_any v cs W (below_lies hW h))
    have HU := Lib.hid (fun W (hW : Below w.heap.size w W) => valid_any u ds W (below_lies hW h'))
    have HM := Lib.hid (fun W hW => ret_open (HF hv hu k4 k42 W hW))
    unfold onR
    rw [if_pos hv, if_pos hu, if_pos k4, if_pos k42]
    rw [hv] at HV
    rw [hu] at HU
    clear HF hv hu
    obtain ⟨k, n, s, ks, es⟩ := v
    obtain ⟨k2, n2, t, ks2, es2⟩ := u
    obtain ⟨A, a, B, b, xs, rfl, _⟩ := lies_open h
    obtain ⟨A2, a2, B2, b2', ys, rfl, _⟩ := lies_open h'
    clear h h'
    have H0 := Lib.hid (B3.start w #[.int .i64 k, .int .i64 n, .string s, .slice A ks.length a, .slice B es.length b] #[.int .i64 k2, .int .i64 n2, .string t, .slice A2 ks2.length a2, .slice B2 es2.length b2'])
    have hkd : kd (V.mk k n s ks es) = k := rfl
    have hkd2 : kd (V.mk k2 n2 t ks2 es2) = k2 := rfl
    have hst : stv (V.mk k n s ks es) = s := rfl
    have hst2 : stv (V.mk k2 n2 t ks2 es2) = t := rfl
    rw [hkd] at k4
    rw [hkd2] at k42
    rw [hst, hst2] at HM
    clear hkd hkd2 hst hst2
    subst k4 k42
    have HLI := Lib.hid (fun W => flist_any s t W)
    go_enter Tryz.func26, Tryz.ntmps26
    go_wp2_with fail
    refine (HV.out _ H0.out.below).mono ?_
    rintro e1 w1 ⟨rfl, hb1⟩
    have H1 := Lib.hid (H0.out.next hb1)
    clear hb1
    obtain ⟨y0, y1, y2, y3, y4⟩ := box5 H1.out.r
    have z0 := H1.out.r.free 0
    have z1 := H1.out.r.free 1
    have z2 := H1.out.r.free 2
    have z3 := H1.out.r.free 3
    have z4 := H1.out.r.free 4
    obtain ⟨t0, t1, t2, t3, t4⟩ := box5 H1.out.x
    obtain ⟨u0, u1, u2, u3, u4⟩ := box5 H1.out.y
    go_wp2_with fail
    refine (HU.out _ H1.out.below).mono ?_
    rintro e2 w2 ⟨rfl, hb2⟩
    have H2 := Lib.hid (H1.out.next hb2)
    clear hb2 y0 y1 y2 y3 y4 z0 z1 z2 z3 z4 t0 t1 t2 t3 t4 u0 u1 u2 u3 u4
    obtain ⟨y0, y1, y2, y3, y4⟩ := box5 H2.out.r
    have z0 := H2.out.r.free 0
    have z1 := H2.out.r.free 1
    have z2 := H2.out.r.free 2
    have z3 := H2.out.r.free 3
    have z4 := H2.out.r.free 4
    obtain ⟨t0, t1, t2, t3, t4⟩ := box5 H2.out.x
    obtain ⟨u0, u1, u2, u3, u4⟩ := box5 H2.out.y
    go_wp2_with fail
    refine (HLI.out _).mono ?_
    rintro e3 w3 ⟨g3, hg3, rfl, hb3, hx3⟩
    have H3 := Lib.hid (H2.out.next hb3)
    have hc3 : w3.cell? ⟨g3, 0, none⟩ = some (.func (.func 47) #[.agg #[.string s, .string t]] #[]) := hx3.cell rfl
    clear hb3 hx3 H2 y0 y1 y2 y3 y4 z0 z1 z2 z3 z4 t0 t1 t2 t3 t4 u0 u1 u2 u3 u4
    go_wp2_with fail
    refine (HM.out _ H3.out.below).mono ?_
    rintro e4 w4 ⟨rk, rn, rs, rks, res, RA, ra, RC, rc, hrv, rfl, hb4, hl4⟩
    have H4 := Lib.hid (H3.out.next hb4)
    have HL := Lib.hid hl4
    have hs3 := H3.out.r.lt
    have hs4 := H3.out.below.size
    clear hb4 hl4 hrv hc3
    obtain ⟨y0, y1, y2, y3, y4⟩ := box5 H4.out.r
    have z0 := H4.out.r.free 0
    have z1 := H4.out.r.free 1
    have z2 := H4.out.r.free 2
    have z3 := H4.out.r.free 3
    have z4 := H4.out.r.free 4
    obtain ⟨t0, t1, t2, t3, t4⟩ := box5 H4.out.x
    obtain ⟨u0, u1, u2, u3, u4⟩ := box5 H4.out.y
    go_wp2_with fail
    refine bodyPost_ret (v := .tuple #[.agg #[.int .i64 rk, .int .i64 rn, .string rs, .slice RA rks.length ra, .slice RC res.length rc], .int .i64 R.2]) (by simp [results, Tryz.results26, go_sem, y0, y1, y2, y3, y4]) rfl ?_
    exact ret_put H4.out.below (by omega) H4.out.r.lt (HL.out.move fun b hb => ⟨⟨by omega, hb.2, by omega⟩, rfl⟩)
  · exact on_bad _ v u R cs ds w h h' hgood
set_option maxHeartbeats 4000000 in
set_option maxRecDepth 100000 in
/-- parse. -/
theorem on_parse (v u : V) (R : V × Int) (cs ds : List Value) (w : World) (h : Lies w (· < w.heap.size) v cs) (h' : Lies w (· < w.heap.size) u ds)
    (HF : valid v = true → valid u = true → kd v = 4 → kd u = 4 → ∀ W, Below w.heap.size w W → Calls Tryz.prog 52 #[.agg #[.string (stv v), .string (stv u)]] W (RetPost R.1 R.2 W)) :
    Calls Tryz.prog 26 #[.int .i64 5, .agg cs.toArray, .agg ds.toArray] w (RetPost (onR v u R).1 (onR v u R).2 w) := by
  by_cases hgood : valid v = true ∧ valid u = true ∧ kd v = 4 ∧ kd u = 4
  · obtain ⟨hv, hu, k4, k42⟩ := hgood
    have HV := Lib.hid (fun W (hW : Below w.heap.size w W) => valid_any v cs W (below_lies hW h))
    have HU := Lib.hid (fun W (hW : Below w.heap.size w W) => valid_any u ds W (below_lies hW h'))
    have HM := Lib.hid (fun W hW => ret_open (HF hv hu k4 k42 W hW))
    unfold onR
    rw [if_pos hv, if_pos hu, if_pos k4, if_pos k42]
    rw [hv] at HV
    rw [hu] at HU
    clear HF hv hu
    obtain ⟨k, n, s, ks, es⟩ := v
    obtain ⟨k2, n2, t, ks2, es2⟩ := u
    obtain ⟨A, a, B, b, xs, rfl, _⟩ := lies_open h
    obtain ⟨A2, a2, B2, b2', ys, rfl, _⟩ := lies_open h'
    clear h h'
    have H0 := Lib.hid (B3.start w #[.int .i64 k, .int .i64 n, .string s, .slice A ks.length a, .slice B es.length b] #[.int .i64 k2, .int .i64 n2, .string t, .slice A2 ks2.length a2, .slice B2 es2.length b2'])
    have hkd : kd (V.mk k n s ks es) = k := rfl
    have hkd2 : kd (V.mk k2 n2 t ks2 es2) = k2 := rfl
    have hst : stv (V.mk k n s ks es) = s := rfl
    have hst2 : stv (V.mk k2 n2 t ks2 es2) = t := rfl
    rw [hkd] at k4
    rw [hkd2] at k42
    rw [hst, hst2] at HM
    clear hkd hkd2 hst hst2
    subst k4 k42
    have HLI := Lib.hid (fun W => flist_any s t W)
    go_enter Tryz.func26, Tryz.ntmps26
    go_wp2_with fail
    refine (HV.out _ H0.out.below).mono ?_
    rintro e1 w1 ⟨rfl, hb1⟩
    have H1 := Lib.hid (H0.out.next hb1)
    clear hb1
    obtain ⟨y0, y1, y2, y3, y4⟩ := box5 H1.out.r
    have z0 := H1.out.r.free 0
    have z1 := H1.out.r.free 1
    have z2 := H1.out.r.free 2
    have z3 := H1.out.r.free 3
    have z4 := H1.out.r.free 4
    obtain ⟨t0, t1, t2, t3, t4⟩ := box5 H1.out.x
    obtain ⟨u0, u1, u2, u3, u4⟩ := box5 H1.out.y
    go_wp2_with fail
    refine (HU.out _ H1.out.below).mono ?_
    rintro e2 w2 ⟨rfl, hb2⟩
    have H2 := Lib.hid (H1.out.next hb2)
    clear hb2 y0 y1 y2 y3 y4 z0 z1 z2 z3 z4 t0 t1 t2 t3 t4 u0 u1 u2 u3 u4
    obtain ⟨y0, y1, y2, y3, y4⟩ := box5 H2.out.r
    have z0 := H2.out.r.free 0
    have z1 := H2.out.r.free 1
    have z2 := H2.out.r.free 2
    have z3 := H2.out.r.free 3
    have z4 := H2.out.r.free 4
    obtain ⟨t0, t1, t2, t3, t4⟩ := box5 H2.out.x
    obtain ⟨u0, u1, u2, u3, u4⟩ := box5 H2.out.y
    go_wp2_with fail
    refine (HLI.out _).mono ?_
    rintro e3 w3 ⟨g3, hg3, rfl, hb3, hx3⟩
    have H3 := Lib.hid (H2.out.next hb3)
    have hc3 : w3.cell? ⟨g3, 5, none⟩ = some (.func (.func 52) #[.agg #[.string s, .string t]] #[]) := hx3.cell rfl
    clear hb3 hx3 H2 y0 y1 y2 y3 y4 z0 z1 z2 z3 z4 t0 t1 t2 t3 t4 u0 u1 u2 u3 u4
    go_wp2_with fail
    refine (HM.out _ H3.out.below).mono ?_
    rintro e4 w4 ⟨rk, rn, rs, rks, res, RA, ra, RC, rc, hrv, rfl, hb4, hl4⟩
    have H4 := Lib.hid (H3.out.next hb4)
    have HL := Lib.hid hl4
    have hs3 := H3.out.r.lt
    have hs4 := H3.out.below.size
    clear hb4 hl4 hrv hc3
    obtain ⟨y0, y1, y2, y3, y4⟩ := box5 H4.out.r
    have z0 := H4.out.r.free 0
    have z1 := H4.out.r.free 1
    have z2 := H4.out.r.free 2
    have z3 := H4.out.r.free 3
    have z4 := H4.out.r.free 4
    obtain ⟨t0, t1, t2, t3, t4⟩ := box5 H4.out.x
    obtain ⟨u0, u1, u2, u3, u4⟩ := box5 H4.out.y
    go_wp2_with fail
    refine bodyPost_ret (v := .tuple #[.agg #[.int .i64 rk, .int .i64 rn, .string rs, .slice RA rks.length ra, .slice RC res.length rc], .int .i64 R.2]) (by simp [results, Tryz.results26, go_sem, y0, y1, y2, y3, y4]) rfl ?_
    exact ret_put H4.out.below (by omega) H4.out.r.lt (HL.out.move fun b hb => ⟨⟨by omega, hb.2, by omega⟩, rfl⟩)
  · exact on_bad _ v u R cs ds w h h' hgood
/-- The blocks of a function with one value and a result. -/
structure Bv (w : World) (cs : Array Value) (W : World) : Prop where
  below : Below w.heap.size w W
  x : Box W w.heap.size 25 cs
  r : Box W (w.heap.size + 1) 25 #[.int .i64 0, .int .i64 0, .string ⟨#[]⟩, .slice none 0 0, .slice none 0 0]
theorem Bv.start (w : World) (cs : Array Value) : Bv w cs ((w.alloc (.cells cs 25)).alloc (.cells #[.int .i64 0, .int .i64 0, .string ⟨#[]⟩, .slice none 0 0, .slice none 0 0] 25)) :=
  ⟨(((Below.refl _ _).alloc (Nat.le_refl _) _).alloc (by simp) _), (Box.laid w _ _).alloc _, box_at _ _ _ _ (by simp)⟩
theorem Bv.next {w W W' : World} {cs : Array Value} (h : Bv w cs W) (hb : Below W.heap.size W W') : Bv w cs W' :=
  ⟨chain h.below hb, h.x.below hb h.x.lt, h.r.below hb h.r.lt⟩
set_option maxHeartbeats 4000000 in
set_option maxRecDepth 100000 in
theorem onString_of (i : Int) (v r : V) (er : Int) (cs : List Value) (w : World) (h : Lies w (· < w.heap.size) v cs)
    (HC : ∀ W, Below w.heap.size w W → Calls Tryz.prog 26 #[.int .i64 i, .agg cs.toArray, .agg #[.int .i64 4, .int .i64 0, .string ⟨#[]⟩, .slice none 0 0, .slice none 0 0]] W (RetPost r er W)) :
    Calls Tryz.prog 19 #[.int .i64 i, .agg cs.toArray] w (RetPost r er w) := by
  have HM := Lib.hid (fun W hW => ret_open (HC W hW))
  clear HC
  obtain ⟨k, n, s, ks, es⟩ := v
  obtain ⟨A, a, B, b, xs, rfl, _⟩ := lies_open h
  clear h
  have H0 := Lib.hid (Bv.start w #[.int .i64 k, .int .i64 n, .string s, .slice A ks.length a, .slice B es.length b])
  go_enter Tryz.func19, Tryz.ntmps19
  go_wp2_with fail
  refine (HM.out _ H0.out.below).mono ?_
  rintro e1 w1 ⟨rk, rn, rs, rks, res, RA, ra, RC, rc, hrv, rfl, hb1, hl1⟩
  have H1 := Lib.hid (H0.out.next hb1)
  have HL := Lib.hid hl1
  have hs1 := H0.out.r.lt
  have hs2 := H1.out.r.lt
  have hs3 := H0.out.below.size
  clear hb1 hl1 hrv
  obtain ⟨y0, y1, y2, y3, y4⟩ := box5 H1.out.r
  have z0 := H1.out.r.free 0
  have z1 := H1.out.r.free 1
  have z2 := H1.out.r.free 2
  have z3 := H1.out.r.free 3
  have z4 := H1.out.r.free 4
  go_wp2_with fail
  refine bodyPost_ret (v := .tuple #[.agg #[.int .i64 rk, .int .i64 rn, .string rs, .slice RA rks.length ra, .slice RC res.length rc], .int .i64 er]) (by simp [results, Tryz.results19, go_sem, y0, y1, y2, y3, y4]) rfl ?_
  exact ret_put H1.out.below (by omega) H1.out.r.lt (HL.out.move fun b hb => ⟨⟨by omega, hb.2, by omega⟩, rfl⟩)
set_option maxHeartbeats 4000000 in
set_option maxRecDepth 100000 in
theorem top_Explode (v r : V) (er : Int) (cs : List Value) (w : World) (h : Lies w (· < w.heap.size) v cs)
    (HC : ∀ W, Below w.heap.size w W → Calls Tryz.prog 19 #[.int .i64 0, .agg cs.toArray] W (RetPost r er W)) :
    Calls Tryz.prog 10 #[.agg cs.toArray] w (RetPost r er w) := by
  have HM := Lib.hid (fun W hW => ret_open (HC W hW))
  clear HC
  obtain ⟨k, n, s, ks, es⟩ := v
  obtain ⟨A, a, B, b, xs, rfl, _⟩ := lies_open h
  clear h
  have H0 := Lib.hid (Bv.start w #[.int .i64 k, .int .i64 n, .string s, .slice A ks.length a, .slice B es.length b])
  go_enter Tryz.func10, Tryz.ntmps10
  go_wp2_with fail
  refine (HM.out _ H0.out.below).mono ?_
  rintro e1 w1 ⟨rk, rn, rs, rks, res, RA, ra, RC, rc, hrv, rfl, hb1, hl1⟩
  have H1 := Lib.hid (H0.out.next hb1)
  have HL := Lib.hid hl1
  have hs1 := H0.out.r.lt
  have hs2 := H1.out.r.lt
  have hs3 := H0.out.below.size
  clear hb1 hl1 hrv
  obtain ⟨y0, y1, y2, y3, y4⟩ := box5 H1.out.r
  have z0 := H1.out.r.free 0
  have z1 := H1.out.r.free 1
  have z2 := H1.out.r.free 2
  have z3 := H1.out.r.free 3
  have z4 := H1.out.r.free 4
  go_wp2_with fail
  refine bodyPost_ret (v := .tuple #[.agg #[.int .i64 rk, .int .i64 rn, .string rs, .slice RA rks.length ra, .slice RC res.length rc], .int .i64 er]) (by simp [results, Tryz.results10, go_sem, y0, y1, y2, y3, y4]) rfl ?_
  exact ret_put H1.out.below (by omega) H1.out.r.lt (HL.out.move fun b hb => ⟨⟨by omega, hb.2, by omega⟩, rfl⟩)
set_option maxHeartbeats 4000000 in
set_option maxRecDepth 100000 in
theorem top_FromJSON (v r : V) (er : Int) (cs : List Value) (w : World) (h : Lies w (· < w.heap.size) v cs)
    (HC : ∀ W, Below w.heap.size w W → Calls Tryz.prog 19 #[.int .i64 5, .agg cs.toArray] W (RetPost r er W)) :
    Calls Tryz.prog 8 #[.agg cs.toArray] w (RetPost r er w) := by
  have HM := Lib.hid (fun W hW => ret_open (HC W hW))
  clear HC
  obtain ⟨k, n, s, ks, es⟩ := v
  obtain ⟨A, a, B, b, xs, rfl, _⟩ := lies_open h
  clear h
  have H0 := Lib.hid (Bv.start w #[.int .i64 k, .int .i64 n, .string s, .slice A ks.length a, .slice B es.length b])
  go_enter Tryz.func8, Tryz.ntmps8
  go_wp2_with fail
  refine (HM.out _ H0.out.below).mono ?_
  rintro e1 w1 ⟨rk, rn, rs, rks, res, RA, ra, RC, rc, hrv, rfl, hb1, hl1⟩
  have H1 := Lib.hid (H0.out.next hb1)
  have HL := Lib.hid hl1
  have hs1 := H0.out.r.lt
  have hs2 := H1.out.r.lt
  have hs3 := H0.out.below.size
  clear hb1 hl1 hrv
  obtain ⟨y0, y1, y2, y3, y4⟩ := box5 H1.out.r
  have z0 := H1.out.r.free 0
  have z1 := H1.out.r.free 1
  have z2 := H1.out.r.free 2
  have z3 := H1.out.r.free 3
  have z4 := H1.out.r.free 4
  go_wp2_with fail
  refine bodyPost_ret (v := .tuple #[.agg #[.int .i64 rk, .int .i64 rn, .string rs, .slice RA rks.length ra, .slice RC res.length rc], .int .i64 er]) (by simp [results, Tryz.results8, go_sem, y0, y1, y2, y3, y4]) rfl ?_
  exact ret_put H1.out.below (by omega) H1.out.r.lt (HL.out.move fun b hb => ⟨⟨by omega, hb.2, by omega⟩, rfl⟩)
theorem valid_nil : valid (strV ⟨#[]⟩) = true := valid_str (by decide +kernel) (by decide)
/-- Explode at a string, valid or not. -/
theorem explode_one (s : ByteArray) (xs : List Nat) (hx : valid (strV s) = true → runes s.data.toList = some xs) (hs : s.size ≤ 4096) (cs : List Value) (w : World) (h : Lies w (· < w.heap.size) (strV s) cs) :
    Calls Tryz.prog 10 #[.agg cs.toArray] w (RetPost (onR (strV s) (strV ⟨#[]⟩) (arrR ((xs.map Int.ofNat).map numV), arrE ((xs.map Int.ofNat).map numV))).1 (onR (strV s) (strV ⟨#[]⟩) (arrR ((xs.map Int.ofNat).map numV), arrE ((xs.map Int.ofNat).map numV))).2 w) :=
  top_Explode (strV s) _ _ cs w h fun W hW => onString_of 0 (strV s) _ _ cs W (below_lies hW h) fun W2 hW2 =>
    on_explode (strV s) (strV ⟨#[]⟩) _ cs (sc ⟨#[]⟩) W2 (below_lies hW2 (below_lies hW h)) (lies_str _ _ _ (by decide)) fun hv _ _ _ W' _ => m_explode s ⟨#[]⟩ xs W' (hx hv) (by omega)
/-- parse, where it finds a value. -/
theorem m_parse_ok {s : ByteArray} (t : ByteArray) (hs : s.size ≤ 1048576) {v : V} {a m b o : Nat} (hjp : jparse s.data.toList = some (v, ⟨a, 0, m, b, o⟩)) (w : World) (hE : ErrIn w) : Calls Tryz.prog 52 #[.agg #[.string s, .string t]] w (RetPost v 0 w) := by
  refine (m_parse t hs hjp w hE).mono ?_
  rintro e w' ⟨hb, k, n, u, A, na, ca, B, nb, cb, rfl, hl⟩
  exact ret_of (ds := [.int .i64 k, .int .i64 n, .string u, .slice A na ca, .slice B nb cb]) hb (hl rfl)
theorem fromJSON_one {s : ByteArray} (hv : valid (strV s) = true) (hs : s.size ≤ 4096) {v : V} {a m b o : Nat} (hjp : jparse s.data.toList = some (v, ⟨a, 0, m, b, o⟩)) (cs : List Value) (w : World) (hE : ErrIn w) (h : Lies w (· < w.heap.size) (strV s) cs) :
    Calls Tryz.prog 8 #[.agg cs.toArray] w (RetPost v 0 w) :=
  top_FromJSON (strV s) _ _ cs w h fun W hW => onString_of 5 (strV s) _ _ cs W (below_lies hW h) fun W2 hW2 => by
    have := on_parse (strV s) (strV ⟨#[]⟩) (v, 0) cs (sc ⟨#[]⟩) W2 (below_lies hW2 (below_lies hW h)) (lies_str _ _ _ (by decide)) fun _ _ _ _ W' hW' => m_parse_ok ⟨#[]⟩ (by omega) hjp W' (((hE.next hW).next hW2).next hW')
    rw [on_ok hv valid_nil] at this
    exact this
end Go.Proofs.YtfmpdcmedaiooaaGreatDoor
