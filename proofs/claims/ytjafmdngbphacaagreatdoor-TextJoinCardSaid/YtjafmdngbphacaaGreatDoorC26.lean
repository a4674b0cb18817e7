/- text.onStrings: the functions on strings, by their list. -/
import Derived.Test.YtjafmdngbphacaaGreatDoorC25
import Derived.Test.YtjafmdngbphacaaGreatDoorC24
set_option linter.unusedVariables false
set_option linter.unusedSimpArgs false
namespace Go.Proofs.YtjafmdngbphacaaGreatDoor
open Go.RowKit Go.Sort
/-- The list of the functions on the strings s and t. -/
def fnCells (s t : ByteArray) : Array Value := #[.func (.func 197) #[.agg #[.string s, .string t]] #[], .func (.func 198) #[.agg #[.string s, .string t]] #[], .func (.func 199) #[.agg #[.string s, .string t]] #[], .func (.func 200) #[.agg #[.string s, .string t]] #[], .func (.func 201) #[.agg #[.string s, .string t]] #[], .func (.func 202) #[.agg #[.string s, .string t]] #[], .func (.func 203) #[.agg #[.string s, .string t]] #[], .func (.func 204) #[.agg #[.string s, .string t]] #[], .func (.func 205) #[.agg #[.string s, .string t]] #[], .func (.func 206) #[.agg #[.string s, .string t]] #[], .func (.func 207) #[.agg #[.string s, .string t]] #[], .func (.func 208) #[.agg #[.string s, .string t]] #[]]
set_option maxHeartbeats 4000000 in
set_option maxRecDepth 100000 in
theorem flist_any (s t : ByteArray) (w : World) : Calls Tryz.prog 162 #[.agg #[.string s, .string t]] w fun e w' => ∃ g, w.heap.size ≤ g ∧ e = .returned (.slice (some ⟨g, 0, none⟩) 12 12) ∧ Below w.heap.size w w' ∧ Box w' g 123 (fnCells s t) := by
  have hmf : ∀ (fn : Fn) (first cap : Array Value) (w : World), (Instr.makeFunc fn first cap).run Tryz.prog w = .ok (.func fn first cap) w := fun _ _ _ _ => rfl
  go_enter Tryz.func162, Tryz.ntmps162
  go_wp2_with fail
  go_ret
  refine ⟨w.heap.size + 1, by omega, rfl, ((Below.refl _ _).alloc (Nat.le_refl _) _).alloc (by simp) _, ?_⟩
  exact box_at _ _ _ _ (by simp)
/-- What a function of the list gives, its arguments judged. -/
def onR (v u : V) (R : V × Int) : V × Int := if valid v = true then (if valid u = true then (if kd v = 4 then (if kd u = 4 then R else (vnull, 12)) else (vnull, 12)) else (vnull, 1)) else (vnull, 1)
set_option maxHeartbeats 4000000 in
set_option maxRecDepth 100000 in
theorem on_bad (i : Int) (v u : V) (R : V × Int) (cs ds : List Value) (w : World) (h : Lies w (· < w.heap.size) v cs) (h' : Lies w (· < w.heap.size) u ds) (hbad : ¬ (valid v = true ∧ valid u = true ∧ kd v = 4 ∧ kd u = 4)) :
    Calls Tryz.prog 115 #[.int .i64 i, .agg cs.toArray, .agg ds.toArray] w (RetPost (onR v u R).1 (onR v u R).2 w) := by
  have HV := Lib.hid (fun W (hW : Below w.heap.size w W) => valid_any v cs W (below_lies hW h))
  have HU := Lib.hid (fun W (hW : Below w.heap.size w W) => valid_any u ds W (below_lies hW h'))
  unfold onR
  obtain ⟨k, n, s, ks, es⟩ := v
  obtain ⟨k2, n2, s2, ks2, es2⟩ := u
  obtain ⟨A, a, B, b, xs, rfl, _⟩ := lies_open h
  obtain ⟨A2, a2, B2, b2', ys, rfl, _⟩ := lies_open h'
  clear h h'
  have H0 := Lib.hid (B3.start w #[.int .i64 k, .int .i64 n, .string s, .slice A ks.length a, .slice B es.length b] #[.int .i64 k2, .int .i64 n2, .string s2, .slice A2 ks2.length a2, .slice B2 es2.length b2'])
  have hkd : kd (V.mk k n s ks es) = k := rfl
  have hkd2 : kd (V.mk k2 n2 s2 ks2 es2) = k2 := rfl
  rw [hkd, hkd2]
  rw [hkd, hkd2] at hbad
  clear hkd hkd2
  by_cases hv : valid (V.mk k n s ks es) = true
  · rw [if_pos hv]
    by_cases hu : valid (V.mk k2 n2 s2 ks2 es2) = true
    · rw [if_pos hu]
      have hb2 : ¬ (k = 4 ∧ k2 = 4) := fun q => hbad ⟨hv, hu, q.1, q.2⟩
      rw [hv] at HV
      rw [hu] at HU
      clear hv hu hbad
      by_cases c6 : k = 4
      · rw [if_pos c6]
        have c62 : ¬ k2 = 4 := fun q => hb2 ⟨c6, q⟩
        rw [if_neg c62]
        have q : (k2 == 4) = false := by simpa using c62
        have q2 : (k2 != 4) = true := by simp [c62]
        subst c6
        clear hb2
        go_enter Tryz.func115, Tryz.ntmps115
        go_wp2_with fail
        refine (HV.out _ H0.out.below).mono ?_
        rintro e1 w1 ⟨rfl, hb1⟩
        have H1 := Lib.hid (H0.out.next hb1)
        clear hb1
        obtain ⟨y0, y1, y2, y3, y4⟩ := box5 H1.out.r
        have z0 := H1.out.r.free 0
        have z1 := H1.out.r.free 1
        have z2 := H1.out.r.free 2
        have z3 := H1.out.r.free 3
        have z4 := H1.out.r.free 4
        obtain ⟨t0, t1, t2, t3, t4⟩ := box5 H1.out.x
        obtain ⟨u0, u1, u2, u3, u4⟩ := box5 H1.out.y
        go_wp2_with fail
        refine (HU.out _ H1.out.below).mono ?_
        rintro e2 w2 ⟨rfl, hb2⟩
        have H2 := Lib.hid (H1.out.next hb2)
        clear hb2 y0 y1 y2 y3 y4 z0 z1 z2 z3 z4 t0 t1 t2 t3 t4 u0 u1 u2 u3 u4
        obtain ⟨y0, y1, y2, y3, y4⟩ := box5 H2.out.r
        have z0 := H2.out.r.free 0
        have z1 := H2.out.r.free 1
        have z2 := H2.out.r.free 2
        have z3 := H2.out.r.free 3
        have z4 := H2.out.r.free 4
        obtain ⟨t0, t1, t2, t3, t4⟩ := box5 H2.out.x
        obtain ⟨u0, u1, u2, u3, u4⟩ := box5 H2.out.y
        go_wp2_with fail
        refine bodyPost_ret (v := .tuple #[.agg #[.int .i64 0, .int .i64 0, .string ⟨#[]⟩, .slice none 0 0, .slice none 0 0], .int .i64 12]) (by simp [results, Tryz.results115, go_sem, y0, y1, y2, y3, y4]) rfl ?_
        exact ret_put H2.out.below (by omega) H2.out.r.lt (lies_null _ _)
      · rw [if_neg c6]
        have q : (k == 4) = false := by simpa using c6
        have q2 : (k != 4) = true := by simp [c6]
        clear hb2
        go_enter Tryz.func115, Tryz.ntmps115
        go_wp2_with fail
        refine (HV.out _ H0.out.below).mono ?_
        rintro e1 w1 ⟨rfl, hb1⟩
        have H1 := Lib.hid (H0.out.next hb1)
        clear hb1
        obtain ⟨y0, y1, y2, y3, y4⟩ := box5 H1.out.r
        have z0 := H1.out.r.free 0
        have z1 := H1.out.r.free 1
        have z2 := H1.out.r.free 2
        have z3 := H1.out.r.free 3
        have z4 := H1.out.r.free 4
        obtain ⟨t0, t1, t2, t3, t4⟩ := box5 H1.out.x
        obtain ⟨u0, u1, u2, u3, u4⟩ := box5 H1.out.y
        go_wp2_with fail
        refine (HU.out _ H1.out.below).mono ?_
        rintro e2 w2 ⟨rfl, hb2⟩
        have H2 := Lib.hid (H1.out.next hb2)
        clear hb2 y0 y1 y2 y3 y4 z0 z1 z2 z3 z4 t0 t1 t2 t3 t4 u0 u1 u2 u3 u4
        obtain ⟨y0, y1, y2, y3, y4⟩ := box5 H2.out.r
        have z0 := H2.out.r.free 0
        have z1 := H2.out.r.free 1
        have z2 := H2.out.r.free 2
        have z3 := H2.out.r.free 3
        have z4 := H2.out.r.free 4
        obtain ⟨t0, t1, t2, t3, t4⟩ := box5 H2.out.x
        obtain ⟨u0, u1, u2, u3, u4⟩ := box5 H2.out.y
        go_wp2_with fail
        refine bodyPost_ret (v := .tuple #[.agg #[.int .i64 0, .int .i64 0, .string ⟨#[]⟩, .slice none 0 0, .slice none 0 0], .int .i64 12]) (by simp [results, Tryz.results115, go_sem, y0, y1, y2, y3, y4]) rfl ?_
        exact ret_put H2.out.below (by omega) H2.out.r.lt (lies_null _ _)
    · rw [if_neg hu]
      have hu2 : valid (V.mk k2 n2 s2 ks2 es2) = false := by simpa using hu
      rw [hv] at HV
      rw [hu2] at HU
      clear hv hu hu2 hbad
      go_enter Tryz.func115, Tryz.ntmps115
      go_wp2_with fail
      refine (HV.out _ H0.out.below).mono ?_
      rintro e1 w1 ⟨rfl, hb1⟩
      have H1 := Lib.hid (H0.out.next hb1)
      clear hb1
      obtain ⟨y0, y1, y2, y3, y4⟩ := box5 H1.out.r
      have z0 := H1.out.r.free 0
      have z1 := H1.out.r.free 1
      have z2 := H1.out.r.free 2
      have z3 := H1.out.r.free 3
      have z4 := H1.out.r.free 4
      obtain ⟨t0, t1, t2, t3, t4⟩ := box5 H1.out.x
      obtain ⟨u0, u1, u2, u3, u4⟩ := box5 H1.out.y
      go_wp2_with fail
      refine (HU.out _ H1.out.below).mono ?_
      rintro e2 w2 ⟨rfl, hb2⟩
      have H2 := Lib.hid (H1.out.next hb2)
      clear hb2 y0 y1 y2 y3 y4 z0 z1 z2 z3 z4 t0 t1 t2 t3 t4 u0 u1 u2 u3 u4
      obtain ⟨y0, y1, y2, y3, y4⟩ := box5 H2.out.r
      have z0 := H2.out.r.free 0
      have z1 := H2.out.r.free 1
      have z2 := H2.out.r.free 2
      have z3 := H2.out.r.free 3
      have z4 := H2.out.r.free 4
      obtain ⟨t0, t1, t2, t3, t4⟩ := box5 H2.out.x
      obtain ⟨u0, u1, u2, u3, u4⟩ := box5 H2.out.y
      go_wp2_with fail
      refine bodyPost_ret (v := .tuple #[.agg #[.int .i64 0, .int .i64 0, .string ⟨#[]⟩, .slice none 0 0, .slice none 0 0], .int .i64 1]) (by simp [results, Tryz.results115, go_sem, y0, y1, y2, y3, y4]) rfl ?_
      exact ret_put H2.out.below (by omega) H2.out.r.lt (lies_null _ _)
  · rw [if_neg hv]
    have hv2 : valid (V.mk k n s ks es) = false := by simpa using hv
    rw [hv2] at HV
    clear hv hv2 hbad
    go_enter Tryz.func115, Tryz.ntmps115
    go_wp2_with fail
    refine (HV.out _ H0.out.below).mono ?_
    rintro e1 w1 ⟨rfl, hb1⟩
    have H1 := Lib.hid (H0.out.next hb1)
    clear hb1
    obtain ⟨y0, y1, y2, y3, y4⟩ := box5 H1.out.r
    have z0 := H1.out.r.free 0
    have z1 := H1.out.r.free 1
    have z2 := H1.out.r.free 2
    have z3 := H1.out.r.free 3
    have z4 := H1.out.r.free 4
    obtain ⟨t0, t1, t2, t3, t4⟩ := box5 H1.out.x
    obtain ⟨u0, u1, u2, u3, u4⟩ := box5 H1.out.y
    go_wp2_with fail
    refine bodyPost_ret (v := .tuple #[.agg #[.int .i64 0, .int .i64 0, .string ⟨#[]⟩, .slice none 0 0, .slice none 0 0], .int .i64 1]) (by simp [results, Tryz.results115, go_sem, y0, y1, y2, y3, y4]) rfl ?_
    exact ret_put H1.out.below (by omega) H1.out.r.lt (lies_null _ _)
set_option maxHeartbeats 4000000 in
set_option maxRecDepth 100000 in
/-- startsWith. -/
theorem on_startsWith (v u : V) (R : V × Int) (cs ds : List Value) (w : World) (h : Lies w (· < w.heap.size) v cs) (h' : Lies w (· < w.heap.size) u ds)
    (HF : valid v = true → valid u = true → kd v = 4 → kd u = 4 → ∀ W, Calls Tryz.prog 203 #[.agg #[.string (stv v), .string (stv u)]] W (RetPost R.1 R.2 W)) :
    Calls Tryz.prog 115 #[.int .i64 6, .agg cs.toArray, .agg ds.toArray] w (RetPost (onR v u R).1 (onR v u R).2 w) := by
  by_cases hgood : valid v = true ∧ valid u = true ∧ kd v = 4 ∧ kd u = 4
  · obtain ⟨hv, hu, k4, k42⟩ := hgood
    have HV := Lib.hid (fun W (hW : Below w.heap.size w W) => valid_any v cs W (below_lies hW h))
    have HU := Lib.hid (fun W (hW : Below w.heap.size w W) => valid_any u ds W (below_lies hW h'))
    have HM := Lib.hid (fun W => ret_open (HF hv hu k4 k42 W))
    unfold onR
    rw [if_pos hv, if_pos hu, if_pos k4, if_pos k42]
    rw [hv] at HV
    rw [hu] at HU
    clear HF hv hu
    obtain ⟨k, n, s, ks, es⟩ := v
    obtain ⟨k2, n2, t, ks2, es2⟩ := u
    obtain ⟨A, a, B, b, xs, rfl, _⟩ := lies_open h
    obtain ⟨A2, a2, B2, b2', ys, rfl, _⟩ := lies_open h'
    clear h h'
    have H0 := Lib.hid (B3.start w #[.int .i64 k, .int .i64 n, .string s, .slice A ks.length a, .slice B es.length b] #[.int .i64 k2, .int .i64 n2, .string t, .slice A2 ks2.length a2, .slice B2 es2.length b2'])
    have hkd : kd (V.mk k n s ks es) = k := rfl
    have hkd2 : kd (V.mk k2 n2 t ks2 es2) = k2 := rfl
    have hst : stv (V.mk k n s ks es) = s := rfl
    have hst2 : stv (V.mk k2 n2 t ks2 es2) = t := rfl
    rw [hkd] at k4
    rw [hkd2] at k42
    rw [hst, hst2] at HM
    clear hkd hkd2 hst hst2
    subst k4 k42
    have HLI := Lib.hid (fun W => flist_any s t W)
    go_enter Tryz.func115, Tryz.ntmps115
    go_wp2_with fail
    refine (HV.out _ H0.out.below).mono ?_
    rintro e1 w1 ⟨rfl, hb1⟩
    have H1 := Lib.hid (H0.out.next hb1)
    clear hb1
    obtain ⟨y0, y1, y2, y3, y4⟩ := box5 H1.out.r
    have z0 := H1.out.r.free 0
    have z1 := H1.out.r.free 1
    have z2 := H1.out.r.free 2
    have z3 := H1.out.r.free 3
    have z4 := H1.out.r.free 4
    obtain ⟨t0, t1, t2, t3, t4⟩ := box5 H1.out.x
    obtain ⟨u0, u1, u2, u3, u4⟩ := box5 H1.out.y
    go_wp2_with fail
    refine (HU.out _ H1.out.below).mono ?_
    rintro e2 w2 ⟨rfl, hb2⟩
    have H2 := Lib.hid (H1.out.next hb2)
    clear hb2 y0 y1 y2 y3 y4 z0 z1 z2 z3 z4 t0 t1 t2 t3 t4 u0 u1 u2 u3 u4
    obtain ⟨y0, y1, y2, y3, y4⟩ := box5 H2.out.r
    have z0 := H2.out.r.free 0
    have z1 := H2.out.r.free 1
    have z2 := H2.out.r.free 2
    have z3 := H2.out.r.free 3
    have z4 := H2.out.r.free 4
    obtain ⟨t0, t1, t2, t3, t4⟩ := box5 H2.out.x
    obtain ⟨u0, u1, u2, u3, u4⟩ := box5 H2.out.y
    go_wp2_with fail
    refine (HLI.out _).mono ?_
    rintro e3 w3 ⟨g3, hg3, rfl, hb3, hx3⟩
    have H3 := Lib.hid (H2.out.next hb3)
    have hc3 : w3.cell? ⟨g3, 6, none⟩ = some (.func (.func 203) #[.agg #[.string s, .string t]] #[]) := hx3.cell rfl
    clear hb3 hx3 H2 y0 y1 y2 y3 y4 z0 z1 z2 z3 z4 t0 t1 t2 t3 t4 u0 u1 u2 u3 u4
    go_wp2_with fail
    refine (HM.out _).mono ?_
    rintro e4 w4 ⟨rk, rn, rs, rks, res, RA, ra, RC, rc, hrv, rfl, hb4, hl4⟩
    have H4 := Lib.hid (H3.out.next hb4)
    have HL := Lib.hid hl4
    have hs3 := H3.out.r.lt
    have hs4 := H3.out.below.size
    clear hb4 hl4 hrv hc3
    obtain ⟨y0, y1, y2, y3, y4⟩ := box5 H4.out.r
    have z0 := H4.out.r.free 0
    have z1 := H4.out.r.free 1
    have z2 := H4.out.r.free 2
    have z3 := H4.out.r.free 3
    have z4 := H4.out.r.free 4
    obtain ⟨t0, t1, t2, t3, t4⟩ := box5 H4.out.x
    obtain ⟨u0, u1, u2, u3, u4⟩ := box5 H4.out.y
    go_wp2_with fail
    refine bodyPost_ret (v := .tuple #[.agg #[.int .i64 rk, .int .i64 rn, .string rs, .slice RA rks.length ra, .slice RC res.length rc], .int .i64 R.2]) (by simp [results, Tryz.results115, go_sem, y0, y1, y2, y3, y4]) rfl ?_
    exact ret_put H4.out.below (by omega) H4.out.r.lt (HL.out.move fun b hb => ⟨⟨by omega, hb.2, by omega⟩, rfl⟩)
  · exact on_bad _ v u R cs ds w h h' hgood
set_option maxHeartbeats 4000000 in
set_option maxRecDepth 100000 in
/-- endsWith. -/
theorem on_endsWith (v u : V) (R : V × Int) (cs ds : List Value) (w : World) (h : Lies w (· < w.heap.size) v cs) (h' : Lies w (· < w.heap.size) u ds)
    (HF : valid v = true → valid u = true → kd v = 4 → kd u = 4 → ∀ W, Calls Tryz.prog 204 #[.agg #[.string (stv v), .string (stv u)]] W (RetPost R.1 R.2 W)) :
    Calls Tryz.prog 115 #[.int .i64 7, .agg cs.toArray, .agg ds.toArray] w (RetPost (onR v u R).1 (onR v u R).2 w) := by
  by_cases hgood : valid v = true ∧ valid u = true ∧ kd v = 4 ∧ kd u = 4
  · obtain ⟨hv, hu, k4, k42⟩ := hgood
    have HV := Lib.hid (fun W (hW : Below w.heap.size w W) => valid_any v cs W (below_lies hW h))
    have HU := Lib.hid (fun W (hW : Below w.heap.size w W) => valid_any u ds W (below_lies hW h'))
    have HM := Lib.hid (fun W => ret_open (HF hv hu k4 k42 W))
    unfold onR
    rw [if_pos hv, if_pos hu, if_pos k4, if_pos k42]
    rw [hv] at HV
    rw [hu] at HU
    clear HF hv hu
    obtain ⟨k, n, s, ks, es⟩ := v
    obtain ⟨k2, n2, t, ks2, es2⟩ := u
    obtain ⟨A, a, B, b, xs, rfl, _⟩ := lies_open h
    obtain ⟨A2, a2, B2, b2', ys, rfl, _⟩ := lies_open h'
    clear h h'
    have H0 := Lib.hid (B3.start w #[.int .i64 k, .int .i64 n, .string s, .slice A ks.length a, .slice B es.length b] #[.int .i64 k2, .int .i64 n2, .string t, .slice A2 ks2.length a2, .slice B2 es2.length b2'])
    have hkd : kd (V.mk k n s ks es) = k := rfl
    have hkd2 : kd (V.mk k2 n2 t ks2 es2) = k2 := rfl
    have hst : stv (V.mk k n s ks es) = s := rfl
    have hst2 : stv (V.mk k2 n2 t ks2 es2) = t := rfl
    rw [hkd] at k4
    rw [hkd2] at k42
    rw [hst, hst2] at HM
    clear hkd hkd2 hst hst2
    subst k4 k42
    have HLI := Lib.hid (fun W => flist_any s t W)
    go_enter Tryz.func115, Tryz.ntmps115
    go_wp2_with fail
    refine (HV.out _ H0.out.below).mono ?_
    rintro e1 w1 ⟨rfl, hb1⟩
    have H1 := Lib.hid (H0.out.next hb1)
    clear hb1
    obtain ⟨y0, y1, y2, y3, y4⟩ := box5 H1.out.r
    have z0 := H1.out.r.free 0
    have z1 := H1.out.r.free 1
    have z2 := H1.out.r.free 2
    have z3 := H1.out.r.free 3
    have z4 := H1.out.r.free 4
    obtain ⟨t0, t1, t2, t3, t4⟩ := box5 H1.out.x
    obtain ⟨u0, u1, u2, u3, u4⟩ := box5 H1.out.y
    go_wp2_with fail
    refine (HU.out _ H1.out.below).mono ?_
    rintro e2 w2 ⟨rfl, hb2⟩
    have H2 := Lib.hid (H1.out.next hb2)
    clear hb2 y0 y1 y2 y3 y4 z0 z1 z2 z3 z4 t0 t1 t2 t3 t4 u0 u1 u2 u3 u4
    obtain ⟨y0, y1, y2, y3, y4⟩ := box5 H2.out.r
    have z0 := H2.out.r.free 0
    have z1 := H2.out.r.free 1
    have z2 := H2.out.r.free 2
    have z3 := H2.out.r.free 3
    have z4 := H2.out.r.free 4
    obtain ⟨t0, t1, t2, t3, t4⟩ := box5 H2.out.x
    obtain ⟨u0, u1, u2, u3, u4⟩ := box5 H2.out.y
    go_wp2_with fail
    refine (HLI.out _).mono ?_
    rintro e3 w3 ⟨g3, hg3, rfl, hb3, hx3⟩
    have H3 := Lib.hid (H2.out.next hb3)
    have hc3 : w3.cell? ⟨g3, 7, none⟩ = some (.func (.func 204) #[.agg #[.string s, .string t]] #[]) := hx3.cell rfl
    clear hb3 hx3 H2 y0 y1 y2 y3 y4 z0 z1 z2 z3 z4 t0 t1 t2 t3 t4 u0 u1 u2 u3 u4
    go_wp2_with fail
    refine (HM.out _).mono ?_
    rintro e4 w4 ⟨rk, rn, rs, rks, res, RA, ra, RC, rc, hrv, rfl, hb4, hl4⟩
    have H4 := Lib.hid (H3.out.next hb4)
    have HL := Lib.hid hl4
    have hs3 := H3.out.r.lt
    have hs4 := H3.out.below.size
    clear hb4 hl4 hrv hc3
    obtain ⟨y0, y1, y2, y3, y4⟩ := box5 H4.out.r
    have z0 := H4.out.r.free 0
    have z1 := H4.out.r.free 1
    have z2 := H4.out.r.free 2
    have z3 := H4.out.r.free 3
    have z4 := H4.out.r.free 4
    obtain ⟨t0, t1, t2, t3, t4⟩ := box5 H4.out.x
    obtain ⟨u0, u1, u2, u3, u4⟩ := box5 H4.out.y
    go_wp2_with fail
    refine bodyPost_ret (v := .tuple #[.agg #[.int .i64 rk, .int .i64 rn, .string rs, .slice RA rks.length ra, .slice RC res.length rc], .int .i64 R.2]) (by simp [results, Tryz.results115, go_sem, y0, y1, y2, y3, y4]) rfl ?_
    exact ret_put H4.out.below (by omega) H4.out.r.lt (HL.out.move fun b hb => ⟨⟨by omega, hb.2, by omega⟩, rfl⟩)
  · exact on_bad _ v u R cs ds w h h' hgood
set_option maxHeartbeats 4000000 in
set_option maxRecDepth 100000 in
/-- cutPrefix. -/
theorem on_cutPrefix (v u : V) (R : V × Int) (cs ds : List Value) (w : World) (h : Lies w (· < w.heap.size) v cs) (h' : Lies w (· < w.heap.size) u ds)
    (HF : valid v = true → valid u = true → kd v = 4 → kd u = 4 → ∀ W, Calls Tryz.prog 205 #[.agg #[.string (stv v), .string (stv u)]] W (RetPost R.1 R.2 W)) :
    Calls Tryz.prog 115 #[.int .i64 8, .agg cs.toArray, .agg ds.toArray] w (RetPost (onR v u R).1 (onR v u R).2 w) := by
  by_cases hgood : valid v = true ∧ valid u = true ∧ kd v = 4 ∧ kd u = 4
  · obtain ⟨hv, hu, k4, k42⟩ := hgood
    have HV := Lib.hid (fun W (hW : Below w.heap.size w W) => valid_any v cs W (below_lies hW h))
    have HU := Lib.hid (fun W (hW : Below w.heap.size w W) => valid_any u ds W (below_lies hW h'))
    have HM := Lib.hid (fun W => ret_open (HF hv hu k4 k42 W))
    unfold onR
    rw [if_pos hv, if_pos hu, if_pos k4, if_pos k42]
    rw [hv] at HV
    rw [hu] at HU
    clear HF hv hu
    obtain ⟨k, n, s, ks, es⟩ := v
    obtain ⟨k2, n2, t, ks2, es2⟩ := u
    obtain ⟨A, a, B, b, xs, rfl, _⟩ := lies_open h
    obtain ⟨A2, a2, B2, b2', ys, rfl, _⟩ := lies_open h'
    clear h h'
    have H0 := Lib.hid (B3.start w #[.int .i64 k, .int .i64 n, .string s, .slice A ks.length a, .slice B es.length b] #[.int .i64 k2, .int .i64 n2, .string t, .slice A2 ks2.length a2, .slice B2 es2.length b2'])
    have hkd : kd (V.mk k n s ks es) = k := rfl
    have hkd2 : kd (V.mk k2 n2 t ks2 es2) = k2 := rfl
    have hst : stv (V.mk k n s ks es) = s := rfl
    have hst2 : stv (V.mk k2 n2 t ks2 es2) = t := rfl
    rw [hkd] at k4
    rw [hkd2] at k42
    rw [hst, hst2] at HM
    clear hkd hkd2 hst hst2
    subst k4 k42
    have HLI := Lib.hid (fun W => flist_any s t W)
    go_enter Tryz.func115, Tryz.ntmps115
    go_wp2_with fail
    refine (HV.out _ H0.out.below).mono ?_
    rintro e1 w1 ⟨rfl, hb1⟩
    have H1 := Lib.hid (H0.out.next hb1)
    clear hb1
    obtain ⟨y0, y1, y2, y3, y4⟩ := box5 H1.out.r
    have z0 := H1.out.r.free 0
    have z1 := H1.out.r.free 1
    have z2 := H1.out.r.free 2
    have z3 := H1.out.r.free 3
    have z4 := H1.out.r.free 4
    obtain ⟨t0, t1, t2, t3, t4⟩ := box5 H1.out.x
    obtain ⟨u0, u1, u2, u3, u4⟩ := box5 H1.out.y
    go_wp2_with fail
    refine (HU.out _ H1.out.below).mono ?_
    rintro e2 w2 ⟨rfl, hb2⟩
    have H2 := Lib.hid (H1.out.next hb2)
    clear hb2 y0 y1 y2 y3 y4 z0 z1 z2 z3 z4 t0 t1 t2 t3 t4 u0 u1 u2 u3 u4
    obtain ⟨y0, y1, y2, y3, y4⟩ := box5 H2.out.r
    have z0 := H2.out.r.free 0
    have z1 := H2.out.r.free 1
    have z2 := H2.out.r.free 2
    have z3 := H2.out.r.free 3
    have z4 := H2.out.r.free 4
    obtain ⟨t0, t1, t2, t3, t4⟩ := box5 H2.out.x
    obtain ⟨u0, u1, u2, u3, u4⟩ := box5 H2.out.y
    go_wp2_with fail
    refine (HLI.out _).mono ?_
    rintro e3 w3 ⟨g3, hg3, rfl, hb3, hx3⟩
    have H3 := Lib.hid (H2.out.next hb3)
    have hc3 : w3.cell? ⟨g3, 8, none⟩ = some (.func (.func 205) #[.agg #[.string s, .string t]] #[]) := hx3.cell rfl
    clear hb3 hx3 H2 y0 y1 y2 y3 y4 z0 z1 z2 z3 z4 t0 t1 t2 t3 t4 u0 u1 u2 u3 u4
    go_wp2_with fail
    refine (HM.out _).mono ?_
    rintro e4 w4 ⟨rk, rn, rs, rks, res, RA, ra, RC, rc, hrv, rfl, hb4, hl4⟩
    have H4 := Lib.hid (H3.out.next hb4)
    have HL := Lib.hid hl4
    have hs3 := H3.out.r.lt
    have hs4 := H3.out.below.size
    clear hb4 hl4 hrv hc3
    obtain ⟨y0, y1, y2, y3, y4⟩ := box5 H4.out.r
    have z0 := H4.out.r.free 0
    have z1 := H4.out.r.free 1
    have z2 := H4.out.r.free 2
    have z3 := H4.out.r.free 3
    have z4 := H4.out.r.free 4
    obtain ⟨t0, t1, t2, t3, t4⟩ := box5 H4.out.x
    obtain ⟨u0, u1, u2, u3, u4⟩ := box5 H4.out.y
    go_wp2_with fail
    refine bodyPost_ret (v := .tuple #[.agg #[.int .i64 rk, .int .i64 rn, .string rs, .slice RA rks.length ra, .slice RC res.length rc], .int .i64 R.2]) (by simp [results, Tryz.results115, go_sem, y0, y1, y2, y3, y4]) rfl ?_
    exact ret_put H4.out.below (by omega) H4.out.r.lt (HL.out.move fun b hb => ⟨⟨by omega, hb.2, by omega⟩, rfl⟩)
  · exact on_bad _ v u R cs ds w h h' hgood
set_option maxHeartbeats 4000000 in
set_option maxRecDepth 100000 in
/-- cutSuffix. -/
theorem on_cutSuffix (v u : V) (R : V × Int) (cs ds : List Value) (w : World) (h : Lies w (· < w.heap.size) v cs) (h' : Lies w (· < w.heap.size) u ds)
    (HF : valid v = true → valid u = true → kd v = 4 → kd u = 4 → ∀ W, Calls Tryz.prog 206 #[.agg #[.string (stv v), .string (stv u)]] W (RetPost R.1 R.2 W)) :
    Calls Tryz.prog 115 #[.int .i64 9, .agg cs.toArray, .agg ds.toArray] w (RetPost (onR v u R).1 (onR v u R).2 w) := by
  by_cases hgood : valid v = true ∧ valid u = true ∧ kd v = 4 ∧ kd u = 4
  · obtain ⟨hv, hu, k4, k42⟩ := hgood
    have HV := Lib.hid (fun W (hW : Below w.heap.size w W) => valid_any v cs W (below_lies hW h))
    have HU := Lib.hid (fun W (hW : Below w.heap.size w W) => valid_any u ds W (below_lies hW h'))
    have HM := Lib.hid (fun W => ret_open (HF hv hu k4 k42 W))
    unfold onR
    rw [if_pos hv, if_pos hu, if_pos k4, if_pos k42]
    rw [hv] at HV
    rw [hu] at HU
    clear HF hv hu
    obtain ⟨k, n, s, ks, es⟩ := v
    obtain ⟨k2, n2, t, ks2, es2⟩ := u
    obtain ⟨A, a, B, b, xs, rfl, _⟩ := lies_open h
    obtain ⟨A2, a2, B2, b2', ys, rfl, _⟩ := lies_open h'
    clear h h'
    have H0 := Lib.hid (B3.start w #[.int .i64 k, .int .i64 n, .string s, .slice A ks.length a, .slice B es.length b] #[.int .i64 k2, .int .i64 n2, .string t, .slice A2 ks2.length a2, .slice B2 es2.length b2'])
    have hkd : kd (V.mk k n s ks es) = k := rfl
    have hkd2 : kd (V.mk k2 n2 t ks2 es2) = k2 := rfl
    have hst : stv (V.mk k n s ks es) = s := rfl
    have hst2 : stv (V.mk k2 n2 t ks2 es2) = t := rfl
    rw [hkd] at k4
    rw [hkd2] at k42
    rw [hst, hst2] at HM
    clear hkd hkd2 hst hst2
    subst k4 k42
    have HLI := Lib.hid (fun W => flist_any s t W)
    go_enter Tryz.func115, Tryz.ntmps115
    go_wp2_with fail
    refine (HV.out _ H0.out.below).mono ?_
    rintro e1 w1 ⟨rfl, hb1⟩
    have H1 := Lib.hid (H0.out.next hb1)
    clear hb1
    obtain ⟨y0, y1, y2, y3, y4⟩ := box5 H1.out.r
    have z0 := H1.out.r.free 0
    have z1 := H1.out.r.free 1
    have z2 := H1.out.r.free 2
    have z3 := H1.out.r.free 3
    have z4 := H1.out.r.free 4
    obtain ⟨t0, t1, t2, t3, t4⟩ := box5 H1.out.x
    obtain ⟨u0, u1, u2, u3, u4⟩ := box5 H1.out.y
    go_wp2_with fail
    refine (HU.out _ H1.out.below).mono ?_
    rintro e2 w2 ⟨rfl, hb2⟩
    have H2 := Lib.hid (H1.out.next hb2)
    clear hb2 y0 y1 y2 y3 y4 z0 z1 z2 z3 z4 t0 t1 t2 t3 t4 u0 u1 u2 u3 u4
    obtain ⟨y0, y1, y2, y3, y4⟩ := box5 H2.out.r
    have z0 := H2.out.r.free 0
    have z1 := H2.out.r.free 1
    have z2 := H2.out.r.free 2
    have z3 := H2.out.r.free 3
    have z4 := H2.out.r.free 4
    obtain ⟨t0, t1, t2, t3, t4⟩ := box5 H2.out.x
    obtain ⟨u0, u1, u2, u3, u4⟩ := box5 H2.out.y
    go_wp2_with fail
    refine (HLI.out _).mono ?_
    rintro e3 w3 ⟨g3, hg3, rfl, hb3, hx3⟩
    have H3 := Lib.hid (H2.out.next hb3)
    have hc3 : w3.cell? ⟨g3, 9, none⟩ = some (.func (.func 206) #[.agg #[.string s, .string t]] #[]) := hx3.cell rfl
    clear hb3 hx3 H2 y0 y1 y2 y3 y4 z0 z1 z2 z3 z4 t0 t1 t2 t3 t4 u0 u1 u2 u3 u4
    go_wp2_with fail
    refine (HM.out _).mono ?_
    rintro e4 w4 ⟨rk, rn, rs, rks, res, RA, ra, RC, rc, hrv, rfl, hb4, hl4⟩
    have H4 := Lib.hid (H3.out.next hb4)
    have HL := Lib.hid hl4
    have hs3 := H3.out.r.lt
    have hs4 := H3.out.below.size
    clear hb4 hl4 hrv hc3
    obtain ⟨y0, y1, y2, y3, y4⟩ := box5 H4.out.r
    have z0 := H4.out.r.free 0
    have z1 := H4.out.r.free 1
    have z2 := H4.out.r.free 2
    have z3 := H4.out.r.free 3
    have z4 := H4.out.r.free 4
    obtain ⟨t0, t1, t2, t3, t4⟩ := box5 H4.out.x
    obtain ⟨u0, u1, u2, u3, u4⟩ := box5 H4.out.y
    go_wp2_with fail
    refine bodyPost_ret (v := .tuple #[.agg #[.int .i64 rk, .int .i64 rn, .string rs, .slice RA rks.length ra, .slice RC res.length rc], .int .i64 R.2]) (by simp [results, Tryz.results115, go_sem, y0, y1, y2, y3, y4]) rfl ?_
    exact ret_put H4.out.below (by omega) H4.out.r.lt (HL.out.move fun b hb => ⟨⟨by omega, hb.2, by omega⟩, rfl⟩)
  · exact on_bad _ v u R cs ds w h h' hgood
set_option maxHeartbeats 4000000 in
set_option maxRecDepth 100000 in
/-- indices. -/
theorem on_indices (v u : V) (R : V × Int) (cs ds : List Value) (w : World) (h : Lies w (· < w.heap.size) v cs) (h' : Lies w (· < w.heap.size) u ds)
    (HF : valid v = true → valid u = true → kd v = 4 → kd u = 4 → ∀ W, Calls Tryz.prog 208 #[.agg #[.string (stv v), .string (stv u)]] W (RetPost R.1 R.2 W)) :
    Calls Tryz.prog 115 #[.int .i64 11, .agg cs.toArray, .agg ds.toArray] w (RetPost (onR v u R).1 (onR v u R).2 w) := by
  by_cases hgood : valid v = true ∧ valid u = true ∧ kd v = 4 ∧ kd u = 4
  · obtain ⟨hv, hu, k4, k42⟩ := hgood
    have HV := Lib.hid (fun W (hW : Below w.heap.size w W) => valid_any v cs W (below_lies hW h))
    have HU := Lib.hid (fun W (hW : Below w.heap.size w W) => valid_any u ds W (below_lies hW h'))
    have HM := Lib.hid (fun W => ret_open (HF hv hu k4 k42 W))
    unfold onR
    rw [if_pos hv, if_pos hu, if_pos k4, if_pos k42]
    rw [hv] at HV
    rw [hu] at HU
    clear HF hv hu
    obtain ⟨k, n, s, ks, es⟩ := v
    obtain ⟨k2, n2, t, ks2, es2⟩ := u
    obtain ⟨A, a, B, b, xs, rfl, _⟩ := lies_open h
    obtain ⟨A2, a2, B2, b2', ys, rfl, _⟩ := lies_open h'
    clear h h'
    have H0 := Lib.hid (B3.start w #[.int .i64 k, .int .i64 n, .string s, .slice A ks.length a, .slice B es.length b] #[.int .i64 k2, .int .i64 n2, .string t, .slice A2 ks2.length a2, .slice B2 es2.length b2'])
    have hkd : kd (V.mk k n s ks es) = k := rfl
    have hkd2 : kd (V.mk k2 n2 t ks2 es2) = k2 := rfl
    have hst : stv (V.mk k n s ks es) = s := rfl
    have hst2 : stv (V.mk k2 n2 t ks2 es2) = t := rfl
    rw [hkd] at k4
    rw [hkd2] at k42
    rw [hst, hst2] at HM
    clear hkd hkd2 hst hst2
    subst k4 k42
    have HLI := Lib.hid (fun W => flist_any s t W)
    go_enter Tryz.func115, Tryz.ntmps115
    go_wp2_with fail
    refine (HV.out _ H0.out.below).mono ?_
    rintro e1 w1 ⟨rfl, hb1⟩
    have H1 := Lib.hid (H0.out.next hb1)
    clear hb1
    obtain ⟨y0, y1, y2, y3, y4⟩ := box5 H1.out.r
    have z0 := H1.out.r.free 0
    have z1 := H1.out.r.free 1
    have z2 := H1.out.r.free 2
    have z3 := H1.out.r.free 3
    have z4 := H1.out.r.free 4
    obtain ⟨t0, t1, t2, t3, t4⟩ := box5 H1.out.x
    obtain ⟨u0, u1, u2, u3, u4⟩ := box5 H1.out.y
    go_wp2_with fail
    refine (HU.out _ H1.out.below).mono ?_
    rintro e2 w2 ⟨rfl, hb2⟩
    have H2 := Lib.hid (H1.out.next hb2)
    clear hb2 y0 y1 y2 y3 y4 z0 z1 z2 z3 z4 t0 t1 t2 t3 t4 u0 u1 u2 u3 u4
    obtain ⟨y0, y1, y2, y3, y4⟩ := box5 H2.out.r
    have z0 := H2.out.r.free 0
    have z1 := H2.out.r.free 1
    have z2 := H2.out.r.free 2
    have z3 := H2.out.r.free 3
    have z4 := H2.out.r.free 4
    obtain ⟨t0, t1, t2, t3, t4⟩ := box5 H2.out.x
    obtain ⟨u0, u1, u2, u3, u4⟩ := box5 H2.out.y
    go_wp2_with fail
    refine (HLI.out _).mono ?_
    rintro e3 w3 ⟨g3, hg3, rfl, hb3, hx3⟩
    have H3 := Lib.hid (H2.out.next hb3)
    have hc3 : w3.cell? ⟨g3, 11, none⟩ = some (.func (.func 208) #[.agg #[.string s, .string t]] #[]) := hx3.cell rfl
    clear hb3 hx3 H2 y0 y1 y2 y3 y4 z0 z1 z2 z3 z4 t0 t1 t2 t3 t4 u0 u1 u2 u3 u4
    go_wp2_with fail
    refine (HM.out _).mono ?_
    rintro e4 w4 ⟨rk, rn, rs, rks, res, RA, ra, RC, rc, hrv, rfl, hb4, hl4⟩
    have H4 := Lib.hid (H3.out.next hb4)
    have HL := Lib.hid hl4
    have hs3 := H3.out.r.lt
    have hs4 := H3.out.below.size
    clear hb4 hl4 hrv hc3
    obtain ⟨y0, y1, y2, y3, y4⟩ := box5 H4.out.r
    have z0 := H4.out.r.free 0
    have z1 := H4.out.r.free 1
    have z2 := H4.out.r.free 2
    have z3 := H4.out.r.free 3
    have z4 := H4.out.r.free 4
    obtain ⟨t0, t1, t2, t3, t4⟩ := box5 H4.out.x
    obtain ⟨u0, u1, u2, u3, u4⟩ := box5 H4.out.y
    go_wp2_with fail
    refine bodyPost_ret (v := .tuple #[.agg #[.int .i64 rk, .int .i64 rn, .string rs, .slice RA rks.length ra, .slice RC res.length rc], .int .i64 R.2]) (by simp [results, Tryz.results115, go_sem, y0, y1, y2, y3, y4]) rfl ?_
    exact ret_put H4.out.below (by omega) H4.out.r.lt (HL.out.move fun b hb => ⟨⟨by omega, hb.2, by omega⟩, rfl⟩)
  · exact on_bad _ v u R cs ds w h h' hgood
end Go.Proofs.YtjafmdngbphacaaGreatDoor
